import PyProof.Rows.All
import Wide.All
import OpenK.AllK
import Wide.FinOn
import Lean
import PyProof.EqAt
import PyProof.EqKinds
import PyProof.TupleCall
import PyProof.P3Eq
import PyProof.NeData
import PyProof.FitsBits
import PyProof.ZipIter
import PyProof.TupleIter
import KE.KRevIter
import PyProof.TupleOfGen
import PyProof.ListRange
import KE.KIsAll
import PyProof.ExcArgsOwn
import OpenK.KDescr
import PyProof.StationsW
import PyProof.ExcBaseAll.ValueError
import OpenK.KOwn
import PyProof.RulesAs
import PyProof.RulesDel
import PyProof.Rows.SortWalk
import PyProof.CompUse
import KE.KDictSum
import PyProof.WalkInts
import KE.KSortTup
import PyProof.Rows.TupDisplay
import KE.KIntText
import PyProof.JoinWalk
import PyProof.ExcInit
import PyProof.ExcClass2
import KE.KRevSl
import PySem.Challenge.RW_pebbletoll_k48_whole_far_counts
set_option Elab.async false
set_option linter.all false
set_option maxRecDepth 100000
namespace Hd
open PySem
def top (i:Nat):Stmt:=PySem.Challenge.pw_pebbletoll_k48_whole_far_counts.main.body.getD i (.Pass ⟨0,0,0,0⟩)
def inC (s:Stmt) (j:Nat):Stmt:=match s with
 | .ClassDef _ _ _ b _ _ _ _ _ _ _=>b.getD j (.Pass ⟨0,0,0,0⟩)
 | _=>.Pass ⟨0,0,0,0⟩
def kA (s:Stmt):Arguments:=match s with
 | .FunctionDef _ a _ _ _ _ _ _ _ _=>a
 | _=>{ posonlyargs:=[],args:=[],vararg:=none,kwonlyargs:=[],kw_defaults:=[],kwarg:=none,defaults:=[] }
def kB (s:Stmt):List Stmt:=match s with
 | .FunctionDef _ _ b _ _ _ _ _ _ _=>b
 | _=>[]
def kS (s:Stmt):Scope:=match s with
 | .FunctionDef _ _ _ _ _ _ sc _ _ _=>sc
 | _=>{ kind:=.function,names:=[],isGenerator:=false,isCoroutine:=false }
open PySem.W PySem.Calls PyProof.Rows
def en (P:Params) (s:Str) (t:Tok) (v:Value):DictEntry:=.mk (PyData.keyHash P s) (.str s t) v
def cO (a b:Str) (t1 t2 t3:Tok) (i1 i2 i3 i4 i5:Int) (r1:Value) (b1:Bool) (i6:Int) (r2 v1 v2 v3 r3:Value) (i7 i8:Int) (t4:Tok):Obj:=.mk (.type "code") none (.fields #[.str a t1,.str b t2,.str "/claim/cut.py" t3,.int i1 0,.int i2 0,.int i3 0,.int i4 0,.int i5 0,r1,.bool b1,.int i6 0,r2,v1,v2,v3,r3,.int i7 0,.int i8 0,.str "/claim/cut.py" t4]) #[]
def fR (a b:Str) (s:Stmt):Obj:=.mk .none none (.func (.mk a b (kA s) (.stmts (kB s)) (kS s) 0 [] .none .none .none .none none .none .none 0)) #[]
def fO (a b:Str) (s:Stmt) (pm cd:Value):Obj:=.mk (.type "function") none (.func (PySem.W.fnOf a b (kA s) (kB s) (kS s) .none .none .none pm none cd .none)) #[]
def tO (xs:Array Value):Obj:=.mk (.type "tuple") none (.seq xs 0) #[]
def x0:Obj:=(tO #[])
def x1:Obj:=(.mk .none none (.fields #[]) #[])
def x2:Obj:=(cO "<module>" "<module>" 182 183 184 1 0 0 0 0 (.ref 11) false 181 (.ref 12) .none .none .none .none 185 1 186)
def x3:Obj:=(.mk (.type "frame") none .plain #[(some (.ref 13)),(some (.ref 3)),(some (.ref 3)),none,(some (.str "__main__" 164)),none,(some (.ref 0))])
noncomputable def ha (P:Params):Heap:=.mk (.mk (boot_o_0 P::boot_o_1 P::boot_o_2 P::boot_o_3 P::boot_o_4 P::boot_o_5 P::boot_o_6 P::boot_o_7 P::boot_o_8 P::boot_o_9 P::boot_o_10 P::x0::x1::x2::x3::[])) (.mk [] [] [] 0 [] [] false #[] [] 0 false false false 0 [2000,10,10] false 0 true [] [] 0 false)
noncomputable def hb (P:Params):Heap:=.mk (.mk (boot_o_0 P::boot_o_1 P::boot_o_2 P::boot_o_3 P::boot_o_4 P::boot_o_5 P::boot_o_6 P::boot_o_7 P::boot_o_8 P::boot_o_9 P::boot_o_10 P::x0::x1::x2::x3::[])) (.mk [] [] [] 0 [] [] false #[] [] 0 false false false 0 [2000,10,10] false 0 true [] [] 0 false)
abbrev st0:List Stmt:=[top 0,top 1,top 2,top 3,top 4,top 5,top 6,top 7,top 8,top 9,top 10,top 11,top 12,top 13,top 14,top 15,top 16,top 17,top 18,top 19,top 20,top 21,top 22,top 23,top 24,top 25,top 26,top 27,top 28,top 29,top 30,top 31,top 32,top 33,top 34]
abbrev st1:List Stmt:=[top 35,top 36,top 37,top 38,top 39,top 40,top 41,top 42,top 43,top 44,top 45,top 46,top 47,top 48,top 49,top 50,top 51,top 52,top 53,top 54,top 55,top 56,top 57,top 58,top 59,top 60]
abbrev bb:List Stmt:=st0++(st1++([]))
def env:Env:={ scope:=PySem.Challenge.pw_pebbletoll_k48_whole_far_counts.main.scope,locals:=mainNs,globals:=mainNs,cells:=[],code:=(.ref 13),frame:=some 14 }
abbrev cE:Code:=.body bb env
theorem UR (w:World) (os:OsState):topGo treeTable PySem.Challenge.pw_pebbletoll_k48_whole_far_counts w 11 (some (.ref 6)) 12 (Shared.mk (boot_heap w.params) (.mk []) boot_drawn boot_toks os) (topStub PySem.Challenge.pw_pebbletoll_k48_whole_far_counts)=some ((Shared.mk (ha w.params) (.mk []) (.mk 0 0 0 0) 187 os),Thread.mk (denote treeTable cE) cE (.mk 0 0 0 0) [topFrame (.mk 0 0 0 0)]):=by kernel_rfl
theorem US (w:World) (os:OsState):segRun treeTable PySem.Challenge.pw_pebbletoll_k48_whole_far_counts w 11 (some (.ref 6)) 1 1 (Shared.mk (ha w.params) (.mk []) (.mk 0 0 0 0) 187 os) (blockOf bb env cE (.mk 0 0 0 0) [topFrame (.mk 0 0 0 0)])=some (.next,(Shared.mk (hb w.params) (.mk []) (.mk 0 0 0 0) 187 os),cE,(.mk 0 0 0 0)):=by kernel_rfl
def x4 (P:Params):Obj:=(.mk (.type "dict") none (.dict #[(en P "__name__" 165 (.str "pebbletoll.polynomials" 484)),(en P "__doc__" 166 .none),(en P "__package__" 167 .none),(en P "__loader__" 168 (.builtin "__main__.__loader__#opaque")),(en P "__spec__" 169 .none),(en P "__annotations__" 170 (.ref 6)),(en P "__builtins__" 171 (.ref 4)),(en P "__file__" 173 (.str "/claim/cut.py" 172)),(en P "__cached__" 174 .none),(en P "TollError" 206 (.ref 24)),(en P "BadWeb" 222 (.ref 37)),(en P "NoPlace" 238 (.ref 49)),(en P "NoRoad" 254 (.ref 61)),(en P "BadWish" 270 (.ref 73)),(en P "MOST_PLACES" 274 (.int 24 273)),(en P "LEAST_TOLL" 276 (.int 2 275)),(en P "MOST_TOLL" 278 (.int 1000000 277)),(en P "Web" 306 (.ref 90)),(en P "toll" 319 (.ref 101)),(en P "neighbours" 327 (.ref 108)),(en P "check_place" 335 (.ref 115)),(en P "is_place" 343 (.ref 122)),(en P "check_counts" 351 (.ref 129)),(en P "check_ends" 359 (.ref 136)),(en P "check_tolls" 367 (.ref 143)),(en P "check_joined" 379 (.ref 150)),(en P "other_ends" 389 (.ref 157)),(en P "ahead" 404 (.ref 164)),(en P "down" 417 (.ref 171)),(en P "kids" 423 (.ref 176)),(en P "inward" 429 (.ref 181)),(en P "borne" 441 (.ref 188)),(en P "check_wanted" 450 (.ref 195)),(en P "least_weights" 461 (.ref 202)),(en P "bearers" 473 (.ref 209)),(en P "is_heavy" 483 (.ref 216)),(en P "differences" 491 (.ref 221)),(en P "value_at" 503 (.ref 228)),(en P "first_values" 509 (.ref 233))] 39) #[])
def x5:Obj:=(.mk .none none (.fields #[(.int 2 0),(.int 0 0),(.ref 20),(.int 4 0),(.int 0 0),(.ref 33),(.int 6 0),(.int 0 0),(.ref 45),(.int 8 0),(.int 0 0),(.ref 57),(.int 10 0),(.int 0 0),(.ref 69),(.int 16 0),(.int 0 0),(.ref 81),(.int 27 0),(.int 0 0),(.ref 100),(.int 36 0),(.int 0 0),(.ref 107),(.int 39 0),(.int 0 0),(.ref 114),(.int 42 0),(.int 0 0),(.ref 121),(.int 44 0),(.int 0 0),(.ref 128),(.int 49 0),(.int 0 0),(.ref 135),(.int 54 0),(.int 0 0),(.ref 142),(.int 58 0),(.int 0 0),(.ref 149),(.int 69 0),(.int 0 0),(.ref 156),(.int 78 0),(.int 0 0),(.ref 163),(.int 89 0),(.int 0 0),(.ref 170),(.int 99 0),(.int 0 0),(.ref 175),(.int 101 0),(.int 0 0),(.ref 180),(.int 105 0),(.int 0 0),(.ref 187),(.int 107 0),(.int 0 0),(.ref 194),(.int 111 0),(.int 0 0),(.ref 201),(.int 116 0),(.int 0 0),(.ref 208),(.int 123 0),(.int 0 0),(.ref 215),(.int 126 0),(.int 0 0),(.ref 220),(.int 133 0),(.int 0 0),(.ref 227),(.int 140 0),(.int 0 0),(.ref 232)]) #[])
def x6:Obj:=(tO #[(.type "ValueError")])
def x7:Obj:=(.mk (.type "builtin_function_or_method") none (.fields #[(.builtin "type.__prepare__"),(.type "type")]) #[])
def x8 (P:Params):Obj:=(.mk (.type "dict") none (.dict #[(en P "__module__" 196 (.str "pebbletoll.errors" 187)),(en P "__qualname__" 198 (.str "TollError" 197)),(en P "__firstlineno__" 200 (.int 2 199)),(en P "__static_attributes__" 201 (.ref 22))] 4) #[])
def x9:Obj:=(cO "TollError" "TollError" 191 192 193 2 0 0 0 0 (.ref 18) false 181 (.ref 19) .none .none .none .none 194 2 195)
def x10:Obj:=(.mk (.type "frame") none .plain #[(some (.ref 20)),(some (.ref 3)),(some (.ref 17)),none,(some (.str "pebbletoll.errors" 187)),none,(some (.ref 0))])
def x11 (P:Params):Obj:=(.mk (.type "dict") none (.dict #[(en P "__module__" 196 (.str "pebbletoll.errors" 187)),(en P "__firstlineno__" 200 (.int 2 199)),(en P "__static_attributes__" 201 (.ref 22)),(en P "__weakref__" 203 (.ref 25)),(en P "__doc__" 204 .none)] 3) #[])
def x12:Obj:=(.mk (.type "type") none (.cls (.mk "TollError" [(.type "ValueError")] [(.ref 24),(.type "ValueError"),(.type "Exception"),(.type "BaseException"),(.type "object")] 23 "TollError" true [] [(.ref 37),(.ref 49),(.ref 61),(.ref 73)] false none false)) #[(some (.ref 15)),none,(some (.str "TollError" 189)),(some (.str "TollError" 197)),(some (.builtin "ValueError.__new__")),(some (.bool true))])
def x13:Obj:=(.mk (.type "getset_descriptor") none (.fields #[(.str "__weakref__" 202),(.ref 24),(.builtin "ExceptionGroup.__weakref__"),.none]) #[])
def x14:Obj:=(.mk (.type "super") none (.fields #[(.ref 24),(.ref 24),(.ref 24)]) #[])
def x15:Obj:=(.mk (.type "builtin_function_or_method") none (.fields #[(.builtin "object.__init_subclass__"),(.ref 24)]) #[])
def x16:Obj:=(tO #[(.ref 24)])
def x17 (P:Params):Obj:=(.mk (.type "dict") none (.dict #[(en P "__module__" 214 (.str "pebbletoll.errors" 187)),(en P "__qualname__" 216 (.str "BadWeb" 215)),(en P "__firstlineno__" 218 (.int 4 217)),(en P "__static_attributes__" 219 (.ref 35))] 4) #[])
def x18:Obj:=(cO "BadWeb" "BadWeb" 209 210 211 4 0 0 0 0 (.ref 31) false 181 (.ref 32) .none .none .none .none 212 4 213)
def x19:Obj:=(.mk (.type "frame") none .plain #[(some (.ref 33)),(some (.ref 3)),(some (.ref 30)),none,(some (.str "pebbletoll.errors" 187)),none,(some (.ref 0))])
def x20 (P:Params):Obj:=(.mk (.type "dict") none (.dict #[(en P "__module__" 214 (.str "pebbletoll.errors" 187)),(en P "__firstlineno__" 218 (.int 4 217)),(en P "__static_attributes__" 219 (.ref 35)),(en P "__doc__" 220 .none)] 2) #[])
def x21:Obj:=(.mk (.type "type") none (.cls (.mk "BadWeb" [(.ref 24)] [(.ref 37),(.ref 24),(.type "ValueError"),(.type "Exception"),(.type "BaseException"),(.type "object")] 36 "BadWeb" true [] [] false none false)) #[(some (.ref 28)),none,(some (.str "BadWeb" 207)),(some (.str "BadWeb" 215)),(some (.builtin "ValueError.__new__")),(some (.bool true))])
def x22:Obj:=(.mk (.type "super") none (.fields #[(.ref 37),(.ref 37),(.ref 37)]) #[])
def x23:Obj:=(.mk (.type "builtin_function_or_method") none (.fields #[(.builtin "object.__init_subclass__"),(.ref 37)]) #[])
def x24 (P:Params):Obj:=(.mk (.type "dict") none (.dict #[(en P "__module__" 230 (.str "pebbletoll.errors" 187)),(en P "__qualname__" 232 (.str "NoPlace" 231)),(en P "__firstlineno__" 234 (.int 6 233)),(en P "__static_attributes__" 235 (.ref 47))] 4) #[])
def x25:Obj:=(cO "NoPlace" "NoPlace" 225 226 227 6 0 0 0 0 (.ref 43) false 181 (.ref 44) .none .none .none .none 228 6 229)
def x26:Obj:=(.mk (.type "frame") none .plain #[(some (.ref 45)),(some (.ref 3)),(some (.ref 42)),none,(some (.str "pebbletoll.errors" 187)),none,(some (.ref 0))])
def x27 (P:Params):Obj:=(.mk (.type "dict") none (.dict #[(en P "__module__" 230 (.str "pebbletoll.errors" 187)),(en P "__firstlineno__" 234 (.int 6 233)),(en P "__static_attributes__" 235 (.ref 47)),(en P "__doc__" 236 .none)] 2) #[])
def x28:Obj:=(.mk (.type "type") none (.cls (.mk "NoPlace" [(.ref 24)] [(.ref 49),(.ref 24),(.type "ValueError"),(.type "Exception"),(.type "BaseException"),(.type "object")] 48 "NoPlace" true [] [] false none false)) #[(some (.ref 40)),none,(some (.str "NoPlace" 223)),(some (.str "NoPlace" 231)),(some (.builtin "ValueError.__new__")),(some (.bool true))])
def x29:Obj:=(.mk (.type "super") none (.fields #[(.ref 49),(.ref 49),(.ref 49)]) #[])
def x30:Obj:=(.mk (.type "builtin_function_or_method") none (.fields #[(.builtin "object.__init_subclass__"),(.ref 49)]) #[])
def x31 (P:Params):Obj:=(.mk (.type "dict") none (.dict #[(en P "__module__" 246 (.str "pebbletoll.errors" 187)),(en P "__qualname__" 248 (.str "NoRoad" 247)),(en P "__firstlineno__" 250 (.int 8 249)),(en P "__static_attributes__" 251 (.ref 59))] 4) #[])
def x32:Obj:=(cO "NoRoad" "NoRoad" 241 242 243 8 0 0 0 0 (.ref 55) false 181 (.ref 56) .none .none .none .none 244 8 245)
def x33:Obj:=(.mk (.type "frame") none .plain #[(some (.ref 57)),(some (.ref 3)),(some (.ref 54)),none,(some (.str "pebbletoll.errors" 187)),none,(some (.ref 0))])
def x34 (P:Params):Obj:=(.mk (.type "dict") none (.dict #[(en P "__module__" 246 (.str "pebbletoll.errors" 187)),(en P "__firstlineno__" 250 (.int 8 249)),(en P "__static_attributes__" 251 (.ref 59)),(en P "__doc__" 252 .none)] 2) #[])
def x35:Obj:=(.mk (.type "type") none (.cls (.mk "NoRoad" [(.ref 24)] [(.ref 61),(.ref 24),(.type "ValueError"),(.type "Exception"),(.type "BaseException"),(.type "object")] 60 "NoRoad" true [] [] false none false)) #[(some (.ref 52)),none,(some (.str "NoRoad" 239)),(some (.str "NoRoad" 247)),(some (.builtin "ValueError.__new__")),(some (.bool true))])
def x36:Obj:=(.mk (.type "super") none (.fields #[(.ref 61),(.ref 61),(.ref 61)]) #[])
def x37:Obj:=(.mk (.type "builtin_function_or_method") none (.fields #[(.builtin "object.__init_subclass__"),(.ref 61)]) #[])
def x38 (P:Params):Obj:=(.mk (.type "dict") none (.dict #[(en P "__module__" 262 (.str "pebbletoll.errors" 187)),(en P "__qualname__" 264 (.str "BadWish" 263)),(en P "__firstlineno__" 266 (.int 10 265)),(en P "__static_attributes__" 267 (.ref 71))] 4) #[])
def x39:Obj:=(cO "BadWish" "BadWish" 257 258 259 10 0 0 0 0 (.ref 67) false 181 (.ref 68) .none .none .none .none 260 10 261)
def x40:Obj:=(.mk (.type "frame") none .plain #[(some (.ref 69)),(some (.ref 3)),(some (.ref 66)),none,(some (.str "pebbletoll.errors" 187)),none,(some (.ref 0))])
def x41 (P:Params):Obj:=(.mk (.type "dict") none (.dict #[(en P "__module__" 262 (.str "pebbletoll.errors" 187)),(en P "__firstlineno__" 266 (.int 10 265)),(en P "__static_attributes__" 267 (.ref 71)),(en P "__doc__" 268 .none)] 2) #[])
def x42:Obj:=(.mk (.type "type") none (.cls (.mk "BadWish" [(.ref 24)] [(.ref 73),(.ref 24),(.type "ValueError"),(.type "Exception"),(.type "BaseException"),(.type "object")] 72 "BadWish" true [] [] false none false)) #[(some (.ref 64)),none,(some (.str "BadWish" 255)),(some (.str "BadWish" 263)),(some (.builtin "ValueError.__new__")),(some (.bool true))])
def x43:Obj:=(.mk (.type "super") none (.fields #[(.ref 73),(.ref 73),(.ref 73)]) #[])
def x44:Obj:=(.mk (.type "builtin_function_or_method") none (.fields #[(.builtin "object.__init_subclass__"),(.ref 73)]) #[])
def x45 (P:Params):Obj:=(.mk (.type "dict") none (.dict #[(en P "__module__" 286 (.str "pebbletoll.webs" 271)),(en P "__qualname__" 288 (.str "Web" 287)),(en P "__firstlineno__" 290 (.int 16 289)),(en P "__init__" 296 (.ref 87)),(en P "__static_attributes__" 299 (.ref 88))] 5) #[])
def x46:Obj:=(.mk .none none (.fields #[(.int 18 0),(.int 4 0),(.ref 86)]) #[])
def x47:Obj:=(cO "Web" "Web" 281 282 283 16 0 0 0 0 (.ref 79) false 181 (.ref 80) .none .none .none .none 284 16 285)
def x48:Obj:=(.mk (.type "frame") none .plain #[(some (.ref 81)),(some (.ref 3)),(some (.ref 78)),none,(some (.str "pebbletoll.webs" 271)),none,(some (.ref 0))])
def x49:Obj:=(fR "__init__" "Web.__init__" (inC (top 10) 0))
def x50:Obj:=(cO "__init__" "Web.__init__" 291 292 293 18 3 0 0 3 (.ref 83) true 181 (.ref 84) .none .none .none (.ref 85) 294 18 295)
def x51:Obj:=(fO "__init__" "Web.__init__" (inC (top 10) 0) (.str "pebbletoll.webs" 271) (.ref 86))
def x52:Obj:=(tO #[(.str "many" 297),(.str "roads" 298)])
def x53 (P:Params):Obj:=(.mk (.type "dict") none (.dict #[(en P "__module__" 286 (.str "pebbletoll.webs" 271)),(en P "__firstlineno__" 290 (.int 16 289)),(en P "__init__" 296 (.ref 87)),(en P "__static_attributes__" 299 (.ref 88)),(en P "__dict__" 301 (.ref 91)),(en P "__weakref__" 303 (.ref 92)),(en P "__doc__" 304 .none)] 4) #[])
def x54:Obj:=(.mk (.type "type") none (.cls (.mk "Web" [(.type "object")] [(.ref 90),(.type "object")] 89 "Web" true [] [] false none false)) #[none,none,(some (.str "Web" 279)),(some (.str "Web" 287)),(some (.builtin "object.__new__")),(some (.bool true))])
def x55:Obj:=(.mk (.type "getset_descriptor") none (.fields #[(.str "__dict__" 300),(.ref 90),(.builtin "function.__dict__"),(.builtin "function.__dict__#set")]) #[])
def x56:Obj:=(.mk (.type "getset_descriptor") none (.fields #[(.str "__weakref__" 302),(.ref 90),(.builtin "ExceptionGroup.__weakref__"),.none]) #[])
def x57:Obj:=(.mk (.type "super") none (.fields #[(.ref 90),(.ref 90),(.ref 90)]) #[])
def x58:Obj:=(.mk (.type "builtin_function_or_method") none (.fields #[(.builtin "object.__init_subclass__"),(.ref 90)]) #[])
def x59:Obj:=(tO #[(.str "web" 310),(.str "a" 311),(.str "b" 312),(.str "one" 313),(.str "other" 314),(.str "there" 315),(.str "back" 316)])
def x60:Obj:=(fR "toll" "toll" (top 11))
def x61:Obj:=(cO "toll" "toll" 307 308 309 27 3 0 0 3 (.ref 95) true 181 (.ref 96) .none (.ref 97) (.ref 98) (.ref 99) 317 27 318)
def x62:Obj:=(fO "toll" "toll" (top 11) (.str "pebbletoll.webs" 271) (.ref 100))
def x63:Obj:=(tO #[(.str "web" 323),(.str "a" 324)])
def x64:Obj:=(fR "neighbours" "neighbours" (top 12))
def x65:Obj:=(cO "neighbours" "neighbours" 320 321 322 36 2 0 0 3 (.ref 102) true 181 (.ref 103) .none (.ref 104) (.ref 105) (.ref 106) 325 36 326)
def x66:Obj:=(fO "neighbours" "neighbours" (top 12) (.str "pebbletoll.webs" 271) (.ref 107))
def x67:Obj:=(tO #[(.str "web" 331),(.str "number" 332)])
def x68:Obj:=(fR "check_place" "check_place" (top 13))
def x69:Obj:=(cO "check_place" "check_place" 328 329 330 39 2 0 0 3 (.ref 109) true 181 (.ref 110) .none (.ref 111) (.ref 112) (.ref 113) 333 39 334)
def x70:Obj:=(fO "check_place" "check_place" (top 13) (.str "pebbletoll.webs" 271) (.ref 114))
def x71:Obj:=(tO #[(.str "many" 339),(.str "number" 340)])
def x72:Obj:=(fR "is_place" "is_place" (top 14))
def x73:Obj:=(cO "is_place" "is_place" 336 337 338 42 2 0 0 3 (.ref 116) true 181 (.ref 117) .none (.ref 118) (.ref 119) (.ref 120) 341 42 342)
def x74:Obj:=(fO "is_place" "is_place" (top 14) (.str "pebbletoll.webs" 271) (.ref 121))
def x75:Obj:=(tO #[(.str "many" 347),(.str "roads" 348)])
def x76:Obj:=(fR "check_counts" "check_counts" (top 15))
def x77:Obj:=(cO "check_counts" "check_counts" 344 345 346 44 2 0 0 3 (.ref 123) true 181 (.ref 124) .none (.ref 125) (.ref 126) (.ref 127) 349 44 350)
def x78:Obj:=(fO "check_counts" "check_counts" (top 15) (.str "pebbletoll.webs" 271) (.ref 128))
def x79:Obj:=(tO #[(.str "many" 355),(.str "road" 356)])
def x80:Obj:=(fR "check_ends" "check_ends" (top 16))
def x81:Obj:=(cO "check_ends" "check_ends" 352 353 354 49 2 0 0 3 (.ref 130) true 181 (.ref 131) .none (.ref 132) (.ref 133) (.ref 134) 357 49 358)
def x82:Obj:=(fO "check_ends" "check_ends" (top 16) (.str "pebbletoll.webs" 271) (.ref 135))
def x83:Obj:=(tO #[(.str "road" 363),(.str "number" 364)])
def x84:Obj:=(fR "check_tolls" "check_tolls" (top 17))
def x85:Obj:=(cO "check_tolls" "check_tolls" 360 361 362 54 1 0 0 3 (.ref 137) true 181 (.ref 138) .none (.ref 139) (.ref 140) (.ref 141) 365 54 366)
def x86:Obj:=(fO "check_tolls" "check_tolls" (top 17) (.str "pebbletoll.webs" 271) (.ref 142))
def x87:Obj:=(tO #[(.str "many" 371),(.str "roads" 372),(.str "reached" 373),(.str "waiting" 374),(.str "place" 375),(.str "end" 376)])
def x88:Obj:=(fR "check_joined" "check_joined" (top 18))
def x89:Obj:=(cO "check_joined" "check_joined" 368 369 370 58 2 0 0 3 (.ref 144) true 181 (.ref 145) .none (.ref 146) (.ref 147) (.ref 148) 377 58 378)
def x90:Obj:=(fO "check_joined" "check_joined" (top 18) (.str "pebbletoll.webs" 271) (.ref 149))
def x91:Obj:=(tO #[(.str "roads" 383),(.str "place" 384),(.str "ends" 385),(.str "road" 386)])
def x92:Obj:=(fR "other_ends" "other_ends" (top 19))
def x93:Obj:=(cO "other_ends" "other_ends" 380 381 382 69 2 0 0 3 (.ref 151) true 181 (.ref 152) .none (.ref 153) (.ref 154) (.ref 155) 387 69 388)
def x94:Obj:=(fO "other_ends" "other_ends" (top 19) (.str "pebbletoll.webs" 271) (.ref 156))
def x95:Obj:=(tO #[(.str "web" 395),(.str "r" 396),(.str "nearer" 397),(.str "waiting" 398),(.str "place" 399),(.str "front" 400),(.str "kid" 401)])
def x96:Obj:=(fR "ahead" "ahead" (top 21))
def x97:Obj:=(cO "ahead" "ahead" 392 393 394 78 2 0 0 3 (.ref 158) true 181 (.ref 159) .none (.ref 160) (.ref 161) (.ref 162) 402 78 403)
def x98:Obj:=(fO "ahead" "ahead" (top 21) (.str "pebbletoll.ways" 390) (.ref 163))
def x99:Obj:=(tO #[(.str "web" 408),(.str "r" 409),(.str "nearer" 410),(.str "places" 411),(.str "waiting" 412),(.str "place" 413),(.str "kid" 414)])
def Pp:Obj:=(fR "down" "down" (top 22))
def Mm:Obj:=(cO "down" "down" 405 406 407 89 2 0 0 3 (.ref 165) true 181 (.ref 166) .none (.ref 167) (.ref 168) (.ref 169) 415 89 416)
def Mt:Obj:=(fO "down" "down" (top 22) (.str "pebbletoll.ways" 390) (.ref 170))
def Re:Obj:=(fR "kids" "kids" (top 23))
def KI:Obj:=(cO "kids" "kids" 418 419 420 99 3 0 0 3 (.ref 172) true 181 (.ref 173) .none .none .none (.ref 174) 421 99 422)
def Ls:Obj:=(fO "kids" "kids" (top 23) (.str "pebbletoll.ways" 390) (.ref 175))
def P1:Obj:=(fR "inward" "inward" (top 24))
def KS:Obj:=(cO "inward" "inward" 424 425 426 101 2 0 0 3 (.ref 177) true 181 (.ref 178) .none .none .none (.ref 179) 427 101 428)
def K3:Obj:=(fO "inward" "inward" (top 24) (.str "pebbletoll.ways" 390) (.ref 180))
def K8:Obj:=(tO #[(.str "web" 435),(.str "weights" 436),(.str "place" 437),(.str "front" 438)])
def QG:Obj:=(fR "borne" "borne" (top 26))
def Mf:Obj:=(cO "borne" "borne" 432 433 434 105 4 0 0 3 (.ref 182) true 181 (.ref 183) .none (.ref 184) (.ref 185) (.ref 186) 439 105 440)
def KY:Obj:=(fO "borne" "borne" (top 26) (.str "pebbletoll.enough" 430) (.ref 187))
def KB:Obj:=(tO #[(.str "web" 445),(.str "r" 446),(.str "wanted" 447)])
def QZ:Obj:=(fR "check_wanted" "check_wanted" (top 27))
def KN:Obj:=(cO "check_wanted" "check_wanted" 442 443 444 107 3 0 0 3 (.ref 189) true 181 (.ref 190) .none (.ref 191) (.ref 192) (.ref 193) 448 107 449)
def KW:Obj:=(fO "check_wanted" "check_wanted" (top 27) (.str "pebbletoll.enough" 430) (.ref 194))
def LJ:Obj:=(tO #[(.str "web" 454),(.str "r" 455),(.str "weights" 456),(.str "place" 457),(.str "front" 458)])
def OE:Obj:=(fR "least_weights" "least_weights" (top 28))
def LA:Obj:=(cO "least_weights" "least_weights" 451 452 453 111 2 0 0 3 (.ref 196) true 181 (.ref 197) .none (.ref 198) (.ref 199) (.ref 200) 459 111 460)
def LF:Obj:=(fO "least_weights" "least_weights" (top 28) (.str "pebbletoll.enough" 430) (.ref 201))
def Li:Obj:=(tO #[(.str "web" 465),(.str "r" 466),(.str "weights" 467),(.str "chosen" 468),(.str "place" 469),(.str "front" 470)])
def Px:Obj:=(fR "bearers" "bearers" (top 29))
def Lm:Obj:=(cO "bearers" "bearers" 462 463 464 116 2 0 0 3 (.ref 203) true 181 (.ref 204) .none (.ref 205) (.ref 206) (.ref 207) 471 116 472)
def Ld:Obj:=(fO "bearers" "bearers" (top 29) (.str "pebbletoll.enough" 430) (.ref 208))
def Lu:Obj:=(tO #[(.str "web" 477),(.str "weights" 478),(.str "place" 479),(.str "front" 480)])
def QI:Obj:=(fR "is_heavy" "is_heavy" (top 30))
def KR:Obj:=(cO "is_heavy" "is_heavy" 474 475 476 123 4 0 0 3 (.ref 210) true 181 (.ref 211) .none (.ref 212) (.ref 213) (.ref 214) 481 123 482)
def Lf:Obj:=(fO "is_heavy" "is_heavy" (top 30) (.str "pebbletoll.enough" 430) (.ref 215))
def Rm:Obj:=(fR "differences" "differences" (top 32))
def L6:Obj:=(cO "differences" "differences" 486 487 488 126 1 0 0 3 (.ref 217) true 181 (.ref 218) .none .none .none (.ref 219) 489 126 490)
def L7:Obj:=(fO "differences" "differences" (top 32) (.str "pebbletoll.polynomials" 484) (.ref 220))
def Mu:Obj:=(tO #[(.str "found" 495),(.str "at" 496),(.str "value" 497),(.str "choices" 498),(.str "k" 499),(.str "difference" 500)])
def PB:Obj:=(fR "value_at" "value_at" (top 33))
def KJ:Obj:=(cO "value_at" "value_at" 492 493 494 133 2 0 0 3 (.ref 222) true 181 (.ref 223) .none (.ref 224) (.ref 225) (.ref 226) 501 133 502)
def K9:Obj:=(fO "value_at" "value_at" (top 33) (.str "pebbletoll.polynomials" 484) (.ref 227))
def Qa:Obj:=(fR "first_values" "first_values" (top 34))
def L4:Obj:=(cO "first_values" "first_values" 504 505 506 140 2 0 0 3 (.ref 229) true 181 (.ref 230) .none .none .none (.ref 231) 507 140 508)
def Lw:Obj:=(fO "first_values" "first_values" (top 34) (.str "pebbletoll.polynomials" 484) (.ref 232))
noncomputable def h0 (P:Params):Heap:=.mk (.mk (boot_o_0 P::boot_o_1 P::boot_o_2 P::x4 P::boot_o_4 P::boot_o_5 P::boot_o_6 P::boot_o_7 P::boot_o_8 P::boot_o_9 P::boot_o_10 P::x0::x5::x2::x3::x6::x7::x8 P::x0::x1::x9::x10::x0::x11 P::x12::x13::x14::x15::x16::x7::x17 P::x0::x1::x18::x19::x0::x20 P::x21::x22::x23::x16::x7::x24 P::x0::x1::x25::x26::x0::x27 P::x28::x29::x30::x16::x7::x31 P::x0::x1::x32::x33::x0::x34 P::x35::x36::x37::x16::x7::x38 P::x0::x1::x39::x40::x0::x41 P::x42::x43::x44::x0::x7::x45 P::x0::x46::x47::x48::x0::x1::x49::x50::x51::x52::x53 P::x54::x55::x56::x57::x58::x0::x1::x59::x0::x60::x61::x62::x0::x1::x63::x0::x64::x65::x66::x0::x1::x67::x0::x68::x69::x70::x0::x1::x71::x0::x72::x73::x74::x0::x1::x75::x0::x76::x77::x78::x0::x1::x79::x0::x80::x81::x82::x0::x1::x83::x0::x84::x85::x86::x0::x1::x87::x0::x88::x89::x90::x0::x1::x91::x0::x92::x93::x94::x0::x1::x95::x0::x96::x97::x98::x0::x1::x99::x0::Pp::Mm::Mt::x0::x1::Re::KI::Ls::x0::x1::P1::KS::K3::x0::x1::K8::x0::QG::Mf::KY::x0::x1::KB::x0::QZ::KN::KW::x0::x1::LJ::x0::OE::LA::LF::x0::x1::Li::x0::Px::Lm::Ld::x0::x1::Lu::x0::QI::KR::Lf::x0::x1::Rm::L6::L7::x0::x1::Mu::x0::PB::KJ::K9::x0::x1::Qa::L4::Lw::[])) (.mk [] [] [] 0 [] [] false #[] [] 0 false false false 0 [2000,10,10] false 0 true [] [] 0 false)
theorem U2 (w:World) (os:OsState):segRun treeTable PySem.Challenge.pw_pebbletoll_k48_whole_far_counts w 11 (some (.ref 6)) 1 1981 (Shared.mk (hb w.params) (.mk []) (.mk 0 0 0 0) 187 os) (piecesOf st0 env cE (.mk 0 0 0 0) [topFrame (.mk 0 0 0 0)])=some (.next,(Shared.mk (h0 w.params) (.mk []) (.mk 0 0 0 0) 510 os),cE,(.mk 140 0 141 54)):=by kernel_rfl
def Qu (P:Params):Obj:=(.mk (.type "dict") none (.dict #[(en P "__name__" 165 (.str "law_pebbletoll_k48_whole_far_counts" 609)),(en P "__doc__" 166 .none),(en P "__package__" 167 .none),(en P "__loader__" 168 (.builtin "__main__.__loader__#opaque")),(en P "__spec__" 169 .none),(en P "__annotations__" 170 (.ref 6)),(en P "__builtins__" 171 (.ref 4)),(en P "__file__" 173 (.str "/claim/cut.py" 172)),(en P "__cached__" 174 .none),(en P "TollError" 206 (.ref 24)),(en P "BadWeb" 222 (.ref 37)),(en P "NoPlace" 238 (.ref 49)),(en P "NoRoad" 254 (.ref 61)),(en P "BadWish" 270 (.ref 73)),(en P "MOST_PLACES" 274 (.int 24 273)),(en P "LEAST_TOLL" 276 (.int 2 275)),(en P "MOST_TOLL" 278 (.int 1000000 277)),(en P "Web" 306 (.ref 90)),(en P "toll" 319 (.ref 101)),(en P "neighbours" 327 (.ref 108)),(en P "check_place" 335 (.ref 115)),(en P "is_place" 343 (.ref 122)),(en P "check_counts" 351 (.ref 129)),(en P "check_ends" 359 (.ref 136)),(en P "check_tolls" 367 (.ref 143)),(en P "check_joined" 379 (.ref 150)),(en P "other_ends" 389 (.ref 157)),(en P "ahead" 404 (.ref 164)),(en P "down" 417 (.ref 171)),(en P "kids" 423 (.ref 176)),(en P "inward" 429 (.ref 181)),(en P "borne" 441 (.ref 188)),(en P "check_wanted" 450 (.ref 195)),(en P "least_weights" 461 (.ref 202)),(en P "bearers" 473 (.ref 209)),(en P "is_heavy" 483 (.ref 216)),(en P "differences" 491 (.ref 221)),(en P "value_at" 503 (.ref 228)),(en P "first_values" 509 (.ref 233)),(en P "parted" 515 (.ref 238)),(en P "parted_at" 521 (.ref 243)),(en P "worst_many" 532 (.ref 250)),(en P "Tally" 564 (.ref 265)),(en P "rests_of" 570 (.ref 274)),(en P "is_free" 579 (.ref 281)),(en P "ways_of" 588 (.ref 288)),(en P "ways_given" 598 (.ref 295)),(en P "held_for" 608 (.ref 302)),(en P "_law_cell" 618 (.ref 309)),(en P "_law_mixed" 627 (.ref 316)),(en P "_law_numbers" 638 (.ref 323)),(en P "_law_toll" 645 (.ref 330)),(en P "_law_web" 662 (.ref 337)),(en P "_law_tolls" 674 (.ref 344)),(en P "_law_down" 680 (.ref 349)),(en P "_law_least" 691 (.ref 356)),(en P "_law_whole" 698 (.ref 363)),(en P "_law_lighter" 712 (.ref 370)),(en P "_law_shape" 718 (.ref 375)),(en P "_law_ways" 736 (.ref 382)),(en P "_law_ends" 742 (.ref 387)),(en P "_law_value" 755 (.ref 394)),(en P "law" 761 (.ref 399))] 63) #[])
def T3:Obj:=(.mk .none none (.fields #[(.int 2 0),(.int 0 0),(.ref 20),(.int 4 0),(.int 0 0),(.ref 33),(.int 6 0),(.int 0 0),(.ref 45),(.int 8 0),(.int 0 0),(.ref 57),(.int 10 0),(.int 0 0),(.ref 69),(.int 16 0),(.int 0 0),(.ref 81),(.int 27 0),(.int 0 0),(.ref 100),(.int 36 0),(.int 0 0),(.ref 107),(.int 39 0),(.int 0 0),(.ref 114),(.int 42 0),(.int 0 0),(.ref 121),(.int 44 0),(.int 0 0),(.ref 128),(.int 49 0),(.int 0 0),(.ref 135),(.int 54 0),(.int 0 0),(.ref 142),(.int 58 0),(.int 0 0),(.ref 149),(.int 69 0),(.int 0 0),(.ref 156),(.int 78 0),(.int 0 0),(.ref 163),(.int 89 0),(.int 0 0),(.ref 170),(.int 99 0),(.int 0 0),(.ref 175),(.int 101 0),(.int 0 0),(.ref 180),(.int 105 0),(.int 0 0),(.ref 187),(.int 107 0),(.int 0 0),(.ref 194),(.int 111 0),(.int 0 0),(.ref 201),(.int 116 0),(.int 0 0),(.ref 208),(.int 123 0),(.int 0 0),(.ref 215),(.int 126 0),(.int 0 0),(.ref 220),(.int 133 0),(.int 0 0),(.ref 227),(.int 140 0),(.int 0 0),(.ref 232),(.int 142 0),(.int 0 0),(.ref 237),(.int 144 0),(.int 0 0),(.ref 242),(.int 147 0),(.int 0 0),(.ref 249),(.int 150 0),(.int 0 0),(.ref 256),(.int 161 0),(.int 0 0),(.ref 273),(.int 173 0),(.int 0 0),(.ref 280),(.int 175 0),(.int 0 0),(.ref 287),(.int 177 0),(.int 0 0),(.ref 294),(.int 179 0),(.int 0 0),(.ref 301),(.int 182 0),(.int 0 0),(.ref 308),(.int 186 0),(.int 0 0),(.ref 315),(.int 191 0),(.int 0 0),(.ref 322),(.int 201 0),(.int 0 0),(.ref 329),(.int 205 0),(.int 0 0),(.ref 336),(.int 228 0),(.int 0 0),(.ref 343),(.int 234 0),(.int 0 0),(.ref 348),(.int 242 0),(.int 0 0),(.ref 355),(.int 248 0),(.int 0 0),(.ref 362),(.int 250 0),(.int 0 0),(.ref 369),(.int 255 0),(.int 0 0),(.ref 374),(.int 267 0),(.int 0 0),(.ref 381),(.int 278 0),(.int 0 0),(.ref 386),(.int 287 0),(.int 0 0),(.ref 393),(.int 298 0),(.int 0 0),(.ref 398)]) #[])
def Tf:Obj:=(fR "parted" "parted" (top 35))
def Rx:Obj:=(cO "parted" "parted" 510 511 512 142 2 0 0 3 (.ref 234) true 181 (.ref 235) .none .none .none (.ref 236) 513 142 514)
def Rr:Obj:=(fO "parted" "parted" (top 35) (.str "pebbletoll.polynomials" 484) (.ref 237))
def Uy:Obj:=(fR "parted_at" "parted_at" (top 36))
def P0:Obj:=(cO "parted_at" "parted_at" 516 517 518 144 3 0 0 3 (.ref 239) true 181 (.ref 240) .none .none .none (.ref 241) 519 144 520)
def PN:Obj:=(fO "parted_at" "parted_at" (top 36) (.str "pebbletoll.polynomials" 484) (.ref 242))
def Rf:Obj:=(tO #[(.str "web" 527),(.str "r" 528),(.str "wanted" 529)])
def Ue:Obj:=(fR "worst_many" "worst_many" (top 38))
def Qd:Obj:=(cO "worst_many" "worst_many" 524 525 526 147 3 0 0 3 (.ref 244) true 181 (.ref 245) .none (.ref 246) (.ref 247) (.ref 248) 530 147 531)
def Qv:Obj:=(fO "worst_many" "worst_many" (top 38) (.str "pebbletoll.worsts" 522) (.ref 249))
def TX (P:Params):Obj:=(.mk (.type "dict") none (.dict #[(en P "__module__" 540 (.str "pebbletoll.worsts" 522)),(en P "__qualname__" 542 (.str "Tally" 541)),(en P "__firstlineno__" 544 (.int 150 543)),(en P "__init__" 550 (.ref 262)),(en P "__static_attributes__" 557 (.ref 263))] 5) #[])
def Uw:Obj:=(.mk .none none (.fields #[(.int 152 0),(.int 4 0),(.ref 261)]) #[])
def Ua:Obj:=(cO "Tally" "Tally" 535 536 537 150 0 0 0 0 (.ref 254) false 181 (.ref 255) .none .none .none .none 538 150 539)
def Ug:Obj:=(.mk (.type "frame") none .plain #[(some (.ref 256)),(some (.ref 3)),(some (.ref 253)),none,(some (.str "pebbletoll.worsts" 522)),none,(some (.ref 0))])
def Uq:Obj:=(fR "__init__" "Tally.__init__" (inC (top 39) 0))
def Oz:Obj:=(cO "__init__" "Tally.__init__" 545 546 547 152 3 0 0 3 (.ref 258) true 181 (.ref 259) .none .none .none (.ref 260) 548 152 549)
def Py:Obj:=(fO "__init__" "Tally.__init__" (inC (top 39) 0) (.str "pebbletoll.worsts" 522) (.ref 261))
def P8:Obj:=(tO #[(.str "bearers" 551),(.str "down" 552),(.str "kids" 553),(.str "rests" 554),(.str "web" 555),(.str "weights" 556)])
def P2 (P:Params):Obj:=(.mk (.type "dict") none (.dict #[(en P "__module__" 540 (.str "pebbletoll.worsts" 522)),(en P "__firstlineno__" 544 (.int 150 543)),(en P "__init__" 550 (.ref 262)),(en P "__static_attributes__" 557 (.ref 263)),(en P "__dict__" 559 (.ref 266)),(en P "__weakref__" 561 (.ref 267)),(en P "__doc__" 562 .none)] 4) #[])
def QB:Obj:=(.mk (.type "type") none (.cls (.mk "Tally" [(.type "object")] [(.ref 265),(.type "object")] 264 "Tally" true [] [] false none false)) #[none,none,(some (.str "Tally" 533)),(some (.str "Tally" 541)),(some (.builtin "object.__new__")),(some (.bool true))])
def Q5:Obj:=(.mk (.type "getset_descriptor") none (.fields #[(.str "__dict__" 558),(.ref 265),(.builtin "function.__dict__"),(.builtin "function.__dict__#set")]) #[])
def Pz:Obj:=(.mk (.type "getset_descriptor") none (.fields #[(.str "__weakref__" 560),(.ref 265),(.builtin "ExceptionGroup.__weakref__"),.none]) #[])
def Uo:Obj:=(.mk (.type "super") none (.fields #[(.ref 265),(.ref 265),(.ref 265)]) #[])
def To:Obj:=(.mk (.type "builtin_function_or_method") none (.fields #[(.builtin "object.__init_subclass__"),(.ref 265)]) #[])
def Tj:Obj:=(fR "rests_of" "rests_of" (top 40))
def Qq:Obj:=(cO "rests_of" "rests_of" 565 566 567 161 2 0 0 3 (.ref 270) true 181 (.ref 271) .none .none .none (.ref 272) 568 161 569)
def O1:Obj:=(fO "rests_of" "rests_of" (top 40) (.str "pebbletoll.worsts" 522) (.ref 273))
def Qf:Obj:=(tO #[(.str "tally" 574),(.str "place" 575),(.str "kid" 576)])
def Tt:Obj:=(fR "is_free" "is_free" (top 41))
def OA:Obj:=(cO "is_free" "is_free" 571 572 573 173 3 0 0 3 (.ref 275) true 181 (.ref 276) .none (.ref 277) (.ref 278) (.ref 279) 577 173 578)
def PQ:Obj:=(fO "is_free" "is_free" (top 41) (.str "pebbletoll.worsts" 522) (.ref 280))
def OH:Obj:=(tO #[(.str "tally" 583),(.str "place" 584),(.str "held" 585)])
def Um:Obj:=(fR "ways_of" "ways_of" (top 42))
def O0:Obj:=(cO "ways_of" "ways_of" 580 581 582 175 3 0 0 3 (.ref 282) true 181 (.ref 283) .none (.ref 284) (.ref 285) (.ref 286) 586 175 587)
def PK:Obj:=(fO "ways_of" "ways_of" (top 42) (.str "pebbletoll.worsts" 522) (.ref 287))
def Qo:Obj:=(tO #[(.str "tally" 592),(.str "place" 593),(.str "kid" 594),(.str "given" 595)])
def Uk:Obj:=(fR "ways_given" "ways_given" (top 43))
def Pg:Obj:=(cO "ways_given" "ways_given" 589 590 591 177 4 0 0 3 (.ref 289) true 181 (.ref 290) .none (.ref 291) (.ref 292) (.ref 293) 596 177 597)
def QM:Obj:=(fO "ways_given" "ways_given" (top 43) (.str "pebbletoll.worsts" 522) (.ref 294))
def P6:Obj:=(tO #[(.str "tally" 602),(.str "place" 603),(.str "kid" 604),(.str "given" 605)])
def TW:Obj:=(fR "held_for" "held_for" (top 44))
def Pm:Obj:=(cO "held_for" "held_for" 599 600 601 179 4 0 0 3 (.ref 296) true 181 (.ref 297) .none (.ref 298) (.ref 299) (.ref 300) 606 179 607)
def ON:Obj:=(fO "held_for" "held_for" (top 44) (.str "pebbletoll.worsts" 522) (.ref 301))
def PV:Obj:=(tO #[(.str "script" 614),(.str "k" 615)])
def Tv:Obj:=(fR "_law_cell" "_law_cell" (top 46))
def OF:Obj:=(cO "_law_cell" "_law_cell" 611 612 613 182 2 0 0 3 (.ref 303) true 181 (.ref 304) .none (.ref 305) (.ref 306) (.ref 307) 616 182 617)
def Qj:Obj:=(fO "_law_cell" "_law_cell" (top 46) (.str "law_pebbletoll_k48_whole_far_counts" 609) (.ref 308))
def P7:Obj:=(tO #[(.str "cell" 622),(.str "k" 623),(.str "m" 624)])
def Ux:Obj:=(fR "_law_mixed" "_law_mixed" (top 47))
def P3:Obj:=(cO "_law_mixed" "_law_mixed" 619 620 621 186 2 0 0 3 (.ref 310) true 181 (.ref 311) .none (.ref 312) (.ref 313) (.ref 314) 625 186 626)
def Q1:Obj:=(fO "_law_mixed" "_law_mixed" (top 47) (.str "law_pebbletoll_k48_whole_far_counts" 609) (.ref 315))
def PY:Obj:=(tO #[(.str "script" 631),(.str "many" 632),(.str "rest" 633),(.str "numbers" 634),(.str "k" 635)])
def Up:Obj:=(fR "_law_numbers" "_law_numbers" (top 48))
def QO:Obj:=(cO "_law_numbers" "_law_numbers" 628 629 630 191 2 0 0 3 (.ref 317) true 181 (.ref 318) .none (.ref 319) (.ref 320) (.ref 321) 636 191 637)
def Qs:Obj:=(fO "_law_numbers" "_law_numbers" (top 48) (.str "law_pebbletoll_k48_whole_far_counts" 609) (.ref 322))
def PP:Obj:=(tO #[(.str "rest" 642)])
def T7:Obj:=(fR "_law_toll" "_law_toll" (top 49))
def Q9:Obj:=(cO "_law_toll" "_law_toll" 639 640 641 201 1 0 0 3 (.ref 324) true 181 (.ref 325) .none (.ref 326) (.ref 327) (.ref 328) 643 201 644)
def QR:Obj:=(fO "_law_toll" "_law_toll" (top 49) (.str "law_pebbletoll_k48_whole_far_counts" 609) (.ref 329))
def QU:Obj:=(tO #[(.str "numbers" 649),(.str "head" 650),(.str "many" 651),(.str "names" 652),(.str "k" 653),(.str "roads" 654),(.str "rest" 655),(.str "near" 656),(.str "there" 657),(.str "back" 658),(.str "road" 659)])
def T6:Obj:=(fR "_law_web" "_law_web" (top 50))
def Ra:Obj:=(cO "_law_web" "_law_web" 646 647 648 205 1 0 0 3 (.ref 331) true 181 (.ref 332) .none (.ref 333) (.ref 334) (.ref 335) 660 205 661)
def Rq:Obj:=(fO "_law_web" "_law_web" (top 50) (.str "law_pebbletoll_k48_whole_far_counts" 609) (.ref 336))
def PL:Obj:=(tO #[(.str "roads" 666),(.str "tolls" 667),(.str "one" 668),(.str "other" 669),(.str "there" 670),(.str "back" 671)])
def Uh:Obj:=(fR "_law_tolls" "_law_tolls" (top 51))
def Rb:Obj:=(cO "_law_tolls" "_law_tolls" 663 664 665 228 1 0 0 3 (.ref 338) true 181 (.ref 339) .none (.ref 340) (.ref 341) (.ref 342) 672 228 673)
def Qk:Obj:=(fO "_law_tolls" "_law_tolls" (top 51) (.str "law_pebbletoll_k48_whole_far_counts" 609) (.ref 343))
def Uu:Obj:=(fR "_law_down" "_law_down" (top 52))
def Qx:Obj:=(cO "_law_down" "_law_down" 675 676 677 234 3 0 0 3 (.ref 345) true 181 (.ref 346) .none .none .none (.ref 347) 678 234 679)
def PX:Obj:=(fO "_law_down" "_law_down" (top 52) (.str "law_pebbletoll_k48_whole_far_counts" 609) (.ref 348))
def Pc:Obj:=(tO #[(.str "tolls" 684),(.str "order" 685),(.str "weights" 686),(.str "place" 687),(.str "near" 688)])
def S5:Obj:=(fR "_law_least" "_law_least" (top 53))
def OW:Obj:=(cO "_law_least" "_law_least" 681 682 683 242 2 0 0 3 (.ref 350) true 181 (.ref 351) .none (.ref 352) (.ref 353) (.ref 354) 689 242 690)
def Ry:Obj:=(fO "_law_least" "_law_least" (top 53) (.str "law_pebbletoll_k48_whole_far_counts" 609) (.ref 355))
def OQ:Obj:=(tO #[(.str "found" 695)])
def TL:Obj:=(fR "_law_whole" "_law_whole" (top 54))
def PM:Obj:=(cO "_law_whole" "_law_whole" 692 693 694 248 1 0 0 3 (.ref 357) true 181 (.ref 358) .none (.ref 359) (.ref 360) (.ref 361) 696 248 697)
def QP:Obj:=(fO "_law_whole" "_law_whole" (top 54) (.str "law_pebbletoll_k48_whole_far_counts" 609) (.ref 362))
def O9:Obj:=(tO #[(.str "many" 702),(.str "roads" 703),(.str "limit" 704),(.str "told" 705),(.str "one" 706),(.str "other" 707),(.str "there" 708),(.str "back" 709)])
def S4:Obj:=(fR "_law_lighter" "_law_lighter" (top 55))
def Pw:Obj:=(cO "_law_lighter" "_law_lighter" 699 700 701 250 3 0 0 3 (.ref 364) true 181 (.ref 365) .none (.ref 366) (.ref 367) (.ref 368) 710 250 711)
def QC:Obj:=(fO "_law_lighter" "_law_lighter" (top 55) (.str "law_pebbletoll_k48_whole_far_counts" 609) (.ref 369))
def Td:Obj:=(fR "_law_shape" "_law_shape" (top 56))
def PH:Obj:=(cO "_law_shape" "_law_shape" 713 714 715 255 2 0 0 3 (.ref 371) true 181 (.ref 372) .none .none .none (.ref 373) 716 255 717)
def Pl:Obj:=(fO "_law_shape" "_law_shape" (top 56) (.str "law_pebbletoll_k48_whole_far_counts" 609) (.ref 374))
def OV:Obj:=(tO #[(.str "shape" 722),(.str "place" 723),(.str "k" 724),(.str "left" 725),(.str "known" 726),(.str "kid" 727),(.str "cost" 728),(.str "heavy" 729),(.str "last" 730),(.str "told" 731),(.str "given" 732),(.str "inner" 733)])
def Tx:Obj:=(fR "_law_ways" "_law_ways" (top 57))
def Q3:Obj:=(cO "_law_ways" "_law_ways" 719 720 721 267 5 0 0 3 (.ref 376) true 181 (.ref 377) .none (.ref 378) (.ref 379) (.ref 380) 734 267 735)
def OL:Obj:=(fO "_law_ways" "_law_ways" (top 57) (.str "law_pebbletoll_k48_whole_far_counts" 609) (.ref 381))
def TC:Obj:=(fR "_law_ends" "_law_ends" (top 58))
def Rz:Obj:=(cO "_law_ends" "_law_ends" 737 738 739 278 2 0 0 3 (.ref 383) true 181 (.ref 384) .none .none .none (.ref 385) 740 278 741)
def Pf:Obj:=(fO "_law_ends" "_law_ends" (top 58) (.str "law_pebbletoll_k48_whole_far_counts" 609) (.ref 386))
def OO:Obj:=(tO #[(.str "row" 746),(.str "y" 747),(.str "told" 748),(.str "k" 749),(.str "top" 750),(.str "bottom" 751),(.str "j" 752)])
def Tg:Obj:=(fR "_law_value" "_law_value" (top 59))
def OM:Obj:=(cO "_law_value" "_law_value" 743 744 745 287 2 0 0 3 (.ref 388) true 181 (.ref 389) .none (.ref 390) (.ref 391) (.ref 392) 753 287 754)
def QD:Obj:=(fO "_law_value" "_law_value" (top 59) (.str "law_pebbletoll_k48_whole_far_counts" 609) (.ref 393))
def TK:Obj:=(fR "law" "law" (top 60))
def PZ:Obj:=(cO "law" "law" 756 757 758 298 1 0 0 3 (.ref 395) true 181 (.ref 396) .none .none .none (.ref 397) 759 298 760)
def Q7:Obj:=(fO "law" "law" (top 60) (.str "law_pebbletoll_k48_whole_far_counts" 609) (.ref 398))
noncomputable def h1 (P:Params):Heap:=.mk (.mk (boot_o_0 P::boot_o_1 P::boot_o_2 P::Qu P::boot_o_4 P::boot_o_5 P::boot_o_6 P::boot_o_7 P::boot_o_8 P::boot_o_9 P::boot_o_10 P::x0::T3::x2::x3::x6::x7::x8 P::x0::x1::x9::x10::x0::x11 P::x12::x13::x14::x15::x16::x7::x17 P::x0::x1::x18::x19::x0::x20 P::x21::x22::x23::x16::x7::x24 P::x0::x1::x25::x26::x0::x27 P::x28::x29::x30::x16::x7::x31 P::x0::x1::x32::x33::x0::x34 P::x35::x36::x37::x16::x7::x38 P::x0::x1::x39::x40::x0::x41 P::x42::x43::x44::x0::x7::x45 P::x0::x46::x47::x48::x0::x1::x49::x50::x51::x52::x53 P::x54::x55::x56::x57::x58::x0::x1::x59::x0::x60::x61::x62::x0::x1::x63::x0::x64::x65::x66::x0::x1::x67::x0::x68::x69::x70::x0::x1::x71::x0::x72::x73::x74::x0::x1::x75::x0::x76::x77::x78::x0::x1::x79::x0::x80::x81::x82::x0::x1::x83::x0::x84::x85::x86::x0::x1::x87::x0::x88::x89::x90::x0::x1::x91::x0::x92::x93::x94::x0::x1::x95::x0::x96::x97::x98::x0::x1::x99::x0::Pp::Mm::Mt::x0::x1::Re::KI::Ls::x0::x1::P1::KS::K3::x0::x1::K8::x0::QG::Mf::KY::x0::x1::KB::x0::QZ::KN::KW::x0::x1::LJ::x0::OE::LA::LF::x0::x1::Li::x0::Px::Lm::Ld::x0::x1::Lu::x0::QI::KR::Lf::x0::x1::Rm::L6::L7::x0::x1::Mu::x0::PB::KJ::K9::x0::x1::Qa::L4::Lw::x0::x1::Tf::Rx::Rr::x0::x1::Uy::P0::PN::x0::x1::Rf::x0::Ue::Qd::Qv::x0::x7::TX P::x0::Uw::Ua::Ug::x0::x1::Uq::Oz::Py::P8::P2 P::QB::Q5::Pz::Uo::To::x0::x1::Tj::Qq::O1::x0::x1::Qf::x0::Tt::OA::PQ::x0::x1::OH::x0::Um::O0::PK::x0::x1::Qo::x0::Uk::Pg::QM::x0::x1::P6::x0::TW::Pm::ON::x0::x1::PV::x0::Tv::OF::Qj::x0::x1::P7::x0::Ux::P3::Q1::x0::x1::PY::x0::Up::QO::Qs::x0::x1::PP::x0::T7::Q9::QR::x0::x1::QU::x0::T6::Ra::Rq::x0::x1::PL::x0::Uh::Rb::Qk::x0::x1::Uu::Qx::PX::x0::x1::Pc::x0::S5::OW::Ry::x0::x1::OQ::x0::TL::PM::QP::x0::x1::O9::x0::S4::Pw::QC::x0::x1::Td::PH::Pl::x0::x1::OV::x0::Tx::Q3::OL::x0::x1::TC::Rz::Pf::x0::x1::OO::x0::Tg::OM::QD::x0::x1::TK::PZ::Q7::[])) (.mk [] [] [] 0 [] [] false #[] [] 0 false false false 0 [2000,10,10] false 0 true [] [] 0 false)
theorem UO (w:World) (os:OsState):segRun treeTable PySem.Challenge.pw_pebbletoll_k48_whole_far_counts w 11 (some (.ref 6)) 1 950 (Shared.mk (h0 w.params) (.mk []) (.mk 0 0 0 0) 510 os) (piecesOf st1 env cE (.mk 140 0 141 54) [topFrame (.mk 0 0 0 0)])=some (.next,(Shared.mk (h1 w.params) (.mk []) (.mk 0 0 0 0) 762 os),cE,(.mk 298 0 325 15)):=by kernel_rfl
noncomputable def hf (P:Params):Heap:=.mk (.mk (boot_o_0 P::boot_o_1 P::boot_o_2 P::Qu P::boot_o_4 P::boot_o_5 P::boot_o_6 P::boot_o_7 P::boot_o_8 P::boot_o_9 P::boot_o_10 P::x0::T3::x2::x3::x6::x7::x8 P::x0::x1::x9::x10::x0::x11 P::x12::x13::x14::x15::x16::x7::x17 P::x0::x1::x18::x19::x0::x20 P::x21::x22::x23::x16::x7::x24 P::x0::x1::x25::x26::x0::x27 P::x28::x29::x30::x16::x7::x31 P::x0::x1::x32::x33::x0::x34 P::x35::x36::x37::x16::x7::x38 P::x0::x1::x39::x40::x0::x41 P::x42::x43::x44::x0::x7::x45 P::x0::x46::x47::x48::x0::x1::x49::x50::x51::x52::x53 P::x54::x55::x56::x57::x58::x0::x1::x59::x0::x60::x61::x62::x0::x1::x63::x0::x64::x65::x66::x0::x1::x67::x0::x68::x69::x70::x0::x1::x71::x0::x72::x73::x74::x0::x1::x75::x0::x76::x77::x78::x0::x1::x79::x0::x80::x81::x82::x0::x1::x83::x0::x84::x85::x86::x0::x1::x87::x0::x88::x89::x90::x0::x1::x91::x0::x92::x93::x94::x0::x1::x95::x0::x96::x97::x98::x0::x1::x99::x0::Pp::Mm::Mt::x0::x1::Re::KI::Ls::x0::x1::P1::KS::K3::x0::x1::K8::x0::QG::Mf::KY::x0::x1::KB::x0::QZ::KN::KW::x0::x1::LJ::x0::OE::LA::LF::x0::x1::Li::x0::Px::Lm::Ld::x0::x1::Lu::x0::QI::KR::Lf::x0::x1::Rm::L6::L7::x0::x1::Mu::x0::PB::KJ::K9::x0::x1::Qa::L4::Lw::x0::x1::Tf::Rx::Rr::x0::x1::Uy::P0::PN::x0::x1::Rf::x0::Ue::Qd::Qv::x0::x7::TX P::x0::Uw::Ua::Ug::x0::x1::Uq::Oz::Py::P8::P2 P::QB::Q5::Pz::Uo::To::x0::x1::Tj::Qq::O1::x0::x1::Qf::x0::Tt::OA::PQ::x0::x1::OH::x0::Um::O0::PK::x0::x1::Qo::x0::Uk::Pg::QM::x0::x1::P6::x0::TW::Pm::ON::x0::x1::PV::x0::Tv::OF::Qj::x0::x1::P7::x0::Ux::P3::Q1::x0::x1::PY::x0::Up::QO::Qs::x0::x1::PP::x0::T7::Q9::QR::x0::x1::QU::x0::T6::Ra::Rq::x0::x1::PL::x0::Uh::Rb::Qk::x0::x1::Uu::Qx::PX::x0::x1::Pc::x0::S5::OW::Ry::x0::x1::OQ::x0::TL::PM::QP::x0::x1::O9::x0::S4::Pw::QC::x0::x1::Td::PH::Pl::x0::x1::OV::x0::Tx::Q3::OL::x0::x1::TC::Rz::Pf::x0::x1::OO::x0::Tg::OM::QD::x0::x1::TK::PZ::Q7::[])) (.mk [] [] [] 0 [] [] false #[] [] 0 false false false 0 [2000,10,10] false 0 true [] [] 0 false)
theorem UP (w:World) (os:OsState):topRun treeTable PySem.Challenge.pw_pebbletoll_k48_whole_far_counts w 11 (some (.ref 6)) 2 (Shared.mk (h1 w.params) (.mk []) (.mk 0 0 0 0) 762 os) (restOf [] env cE (.mk 298 0 325 15) [topFrame (.mk 0 0 0 0)])=some (Shared.mk (hf w.params) (.mk []) (.mk 0 0 0 0) 762 os):=by kernel_rfl
theorem run (w:World) (os:OsState):topRun treeTable PySem.Challenge.pw_pebbletoll_k48_whole_far_counts w 11 (some (.ref 6)) (12+(1+(1981+(950+(2))))) (Shared.mk (boot_heap w.params) (.mk []) boot_drawn boot_toks os) (topStub PySem.Challenge.pw_pebbletoll_k48_whole_far_counts)=some (Shared.mk (hf w.params) (.mk []) (.mk 0 0 0 0) 762 os):=go_top (UR w os) (piece_block (US w os) (piece_app (U2 w os) (piece_app (UO w os) (UP w os))))
theorem opn:∀ w:World,(fencedOpening treeTable PySem.Challenge.pw_pebbletoll_k48_whole_far_counts w 5984).map (fun s=>(s.heap,s.gens,s.drawn,s.toks))=some (boot_heap w.params,Array.mk [],boot_drawn,boot_toks):=boot_open (by kernel_rfl) (by decide) fun s=>by kernel_rfl
theorem siz (w:World):((boot_heap w.params).isNs mainGlobals && (Array.mk ([]:List GenState)).size == 0,(boot_heap w.params).objs.size,(boot_heap w.params).nsMap mainGlobals "__annotations__")=(true,11,(some (.ref 6))):=by kernel_rfl
noncomputable def KK:Params->Frag:=fun P =>
 (nat_lit 2,boot_o_2 P) ::
 (nat_lit 3,Qu P) ::
 (nat_lit 15,x6) ::
 (nat_lit 22,x0) ::
 (nat_lit 23,x11 P) ::
 (nat_lit 24,x12) ::
 (nat_lit 25,x13) ::
 (nat_lit 28,x16) ::
 (nat_lit 35,x0) ::
 (nat_lit 36,x20 P) ::
 (nat_lit 37,x21) ::
 (nat_lit 40,x16) ::
 (nat_lit 47,x0) ::
 (nat_lit 48,x27 P) ::
 (nat_lit 49,x28) ::
 (nat_lit 52,x16) ::
 (nat_lit 59,x0) ::
 (nat_lit 60,x34 P) ::
 (nat_lit 61,x35) ::
 (nat_lit 64,x16) ::
 (nat_lit 71,x0) ::
 (nat_lit 72,x41 P) ::
 (nat_lit 73,x42) ::
 (nat_lit 83,x0) ::
 (nat_lit 86,x50) ::
 (nat_lit 87,x51) ::
 (nat_lit 88,x52) ::
 (nat_lit 89,x53 P) ::
 (nat_lit 90,x54) ::
 (nat_lit 91,x55) ::
 (nat_lit 92,x56) ::
 (nat_lit 95,x0) ::
 (nat_lit 97,x59) ::
 (nat_lit 98,x0) ::
 (nat_lit 100,x61) ::
 (nat_lit 101,x62) ::
 (nat_lit 102,x0) ::
 (nat_lit 104,x63) ::
 (nat_lit 105,x0) ::
 (nat_lit 107,x65) ::
 (nat_lit 108,x66) ::
 (nat_lit 109,x0) ::
 (nat_lit 111,x67) ::
 (nat_lit 112,x0) ::
 (nat_lit 114,x69) ::
 (nat_lit 115,x70) ::
 (nat_lit 116,x0) ::
 (nat_lit 118,x71) ::
 (nat_lit 119,x0) ::
 (nat_lit 121,x73) ::
 (nat_lit 122,x74) ::
 (nat_lit 123,x0) ::
 (nat_lit 125,x75) ::
 (nat_lit 126,x0) ::
 (nat_lit 128,x77) ::
 (nat_lit 129,x78) ::
 (nat_lit 130,x0) ::
 (nat_lit 132,x79) ::
 (nat_lit 133,x0) ::
 (nat_lit 135,x81) ::
 (nat_lit 136,x82) ::
 (nat_lit 137,x0) ::
 (nat_lit 139,x83) ::
 (nat_lit 140,x0) ::
 (nat_lit 142,x85) ::
 (nat_lit 143,x86) ::
 (nat_lit 144,x0) ::
 (nat_lit 146,x87) ::
 (nat_lit 147,x0) ::
 (nat_lit 149,x89) ::
 (nat_lit 150,x90) ::
 (nat_lit 151,x0) ::
 (nat_lit 153,x91) ::
 (nat_lit 154,x0) ::
 (nat_lit 156,x93) ::
 (nat_lit 157,x94) ::
 (nat_lit 158,x0) ::
 (nat_lit 160,x95) ::
 (nat_lit 161,x0) ::
 (nat_lit 163,x97) ::
 (nat_lit 164,x98) ::
 (nat_lit 165,x0) ::
 (nat_lit 167,x99) ::
 (nat_lit 168,x0) ::
 (nat_lit 170,Mm) ::
 (nat_lit 171,Mt) ::
 (nat_lit 172,x0) ::
 (nat_lit 175,KI) ::
 (nat_lit 176,Ls) ::
 (nat_lit 177,x0) ::
 (nat_lit 180,KS) ::
 (nat_lit 181,K3) ::
 (nat_lit 182,x0) ::
 (nat_lit 184,K8) ::
 (nat_lit 185,x0) ::
 (nat_lit 187,Mf) ::
 (nat_lit 188,KY) ::
 (nat_lit 189,x0) ::
 (nat_lit 191,KB) ::
 (nat_lit 192,x0) ::
 (nat_lit 194,KN) ::
 (nat_lit 195,KW) ::
 (nat_lit 196,x0) ::
 (nat_lit 198,LJ) ::
 (nat_lit 199,x0) ::
 (nat_lit 201,LA) ::
 (nat_lit 202,LF) ::
 (nat_lit 203,x0) ::
 (nat_lit 205,Li) ::
 (nat_lit 206,x0) ::
 (nat_lit 208,Lm) ::
 (nat_lit 209,Ld) ::
 (nat_lit 210,x0) ::
 (nat_lit 212,Lu) ::
 (nat_lit 213,x0) ::
 (nat_lit 215,KR) ::
 (nat_lit 216,Lf) ::
 (nat_lit 217,x0) ::
 (nat_lit 220,L6) ::
 (nat_lit 221,L7) ::
 (nat_lit 222,x0) ::
 (nat_lit 224,Mu) ::
 (nat_lit 225,x0) ::
 (nat_lit 227,KJ) ::
 (nat_lit 228,K9) ::
 (nat_lit 229,x0) ::
 (nat_lit 232,L4) ::
 (nat_lit 233,Lw) ::
 (nat_lit 234,x0) ::
 (nat_lit 237,Rx) ::
 (nat_lit 238,Rr) ::
 (nat_lit 239,x0) ::
 (nat_lit 242,P0) ::
 (nat_lit 243,PN) ::
 (nat_lit 244,x0) ::
 (nat_lit 246,Rf) ::
 (nat_lit 247,x0) ::
 (nat_lit 249,Qd) ::
 (nat_lit 250,Qv) ::
 (nat_lit 258,x0) ::
 (nat_lit 261,Oz) ::
 (nat_lit 262,Py) ::
 (nat_lit 263,P8) ::
 (nat_lit 264,P2 P) ::
 (nat_lit 265,QB) ::
 (nat_lit 266,Q5) ::
 (nat_lit 267,Pz) ::
 (nat_lit 270,x0) ::
 (nat_lit 273,Qq) ::
 (nat_lit 274,O1) ::
 (nat_lit 275,x0) ::
 (nat_lit 277,Qf) ::
 (nat_lit 278,x0) ::
 (nat_lit 280,OA) ::
 (nat_lit 281,PQ) ::
 (nat_lit 282,x0) ::
 (nat_lit 284,OH) ::
 (nat_lit 285,x0) ::
 (nat_lit 287,O0) ::
 (nat_lit 288,PK) ::
 (nat_lit 289,x0) ::
 (nat_lit 291,Qo) ::
 (nat_lit 292,x0) ::
 (nat_lit 294,Pg) ::
 (nat_lit 295,QM) ::
 (nat_lit 296,x0) ::
 (nat_lit 298,P6) ::
 (nat_lit 299,x0) ::
 (nat_lit 301,Pm) ::
 (nat_lit 302,ON) ::
 (nat_lit 303,x0) ::
 (nat_lit 305,PV) ::
 (nat_lit 306,x0) ::
 (nat_lit 308,OF) ::
 (nat_lit 309,Qj) ::
 (nat_lit 310,x0) ::
 (nat_lit 312,P7) ::
 (nat_lit 313,x0) ::
 (nat_lit 315,P3) ::
 (nat_lit 316,Q1) ::
 (nat_lit 317,x0) ::
 (nat_lit 319,PY) ::
 (nat_lit 320,x0) ::
 (nat_lit 322,QO) ::
 (nat_lit 323,Qs) ::
 (nat_lit 324,x0) ::
 (nat_lit 326,PP) ::
 (nat_lit 327,x0) ::
 (nat_lit 329,Q9) ::
 (nat_lit 330,QR) ::
 (nat_lit 331,x0) ::
 (nat_lit 333,QU) ::
 (nat_lit 334,x0) ::
 (nat_lit 336,Ra) ::
 (nat_lit 337,Rq) ::
 (nat_lit 338,x0) ::
 (nat_lit 340,PL) ::
 (nat_lit 341,x0) ::
 (nat_lit 343,Rb) ::
 (nat_lit 344,Qk) ::
 (nat_lit 345,x0) ::
 (nat_lit 348,Qx) ::
 (nat_lit 349,PX) ::
 (nat_lit 350,x0) ::
 (nat_lit 352,Pc) ::
 (nat_lit 353,x0) ::
 (nat_lit 355,OW) ::
 (nat_lit 356,Ry) ::
 (nat_lit 357,x0) ::
 (nat_lit 359,OQ) ::
 (nat_lit 360,x0) ::
 (nat_lit 362,PM) ::
 (nat_lit 363,QP) ::
 (nat_lit 364,x0) ::
 (nat_lit 366,O9) ::
 (nat_lit 367,x0) ::
 (nat_lit 369,Pw) ::
 (nat_lit 370,QC) ::
 (nat_lit 371,x0) ::
 (nat_lit 374,PH) ::
 (nat_lit 375,Pl) ::
 (nat_lit 376,x0) ::
 (nat_lit 378,OV) ::
 (nat_lit 379,x0) ::
 (nat_lit 381,Q3) ::
 (nat_lit 382,OL) ::
 (nat_lit 383,x0) ::
 (nat_lit 386,Rz) ::
 (nat_lit 387,Pf) ::
 (nat_lit 388,x0) ::
 (nat_lit 390,OO) ::
 (nat_lit 391,x0) ::
 (nat_lit 393,OM) ::
 (nat_lit 394,QD) ::
 (nat_lit 395,x0) ::
 (nat_lit 398,PZ) ::
 (nat_lit 399,Q7)::[]
abbrev qq:Program:=PySem.W.view PySem.Challenge.pw_pebbletoll_k48_whole_far_counts [1,2,3,4,5,7,8,9,10,11,12,13,14,15,16,17,18,19,21,22,23,24,26,27,28,29,30,32,33,34,35,36,38,39,40,41,42,43,44,46,47,48,49,50,51,52,53,54,55,56,57,58,59,60]
abbrev asK:List Addr:=[2,3,15,22,23,24,25,28,35,36,37,40,47,48,49,52,59,60,61,64,71,72,73,83,86,87,88,89,90,91,92,95,97,98,100,101,102,104,105,107,108,109,111,112,114,115,116,118,119,121,122,123,125,126,128,129,130,132,133,135,136,137,139,140,142,143,144,146,147,149,150,151,153,154,156,157,158,160,161,163,164,165,167,168,170,171,172,175,176,177,180,181,182,184,185,187,188,189,191,192,194,195,196,198,199,201,202,203,205,206,208,209,210,212,213,215,216,217,220,221,222,224,225,227,228,229,232,233,234,237,238,239,242,243,244,246,247,249,250,258,261,262,263,264,265,266,267,270,273,274,275,277,278,280,281,282,284,285,287,288,289,291,292,294,295,296,298,299,301,302,303,305,306,308,309,310,312,313,315,316,317,319,320,322,323,324,326,327,329,330,331,333,334,336,337,338,340,341,343,344,345,348,349,350,352,353,355,356,357,359,360,362,363,364,366,367,369,370,371,374,375,376,378,379,381,382,383,386,387,388,390,391,393,394,395,398,399]
theorem asK_eq:∀ P,asK=(KK P).map (·.1):=fun _=>by kernel_rfl
theorem UN (w:World):(fun os=>((staticsOk (importedModules PySem.Challenge.pw_pebbletoll_k48_whole_far_counts.main.body) (boot_heap w.params) (hf w.params) && namesBound PySem.Challenge.pw_pebbletoll_k48_whole_far_counts (hf w.params) && gensDone (Shared.mk (Hd.hf w.params) (.mk []) (.mk 0 0 0 0) 762 os) && laidKept (boot_heap w.params) (hf w.params)),openSeen qq [] (importedModules PySem.Challenge.pw_pebbletoll_k48_whole_far_counts.main.body) (fun s=>PySem.W.xlAt Hd.qq [] s && PySem.W.recOk (PySem.W.RowW.records (PySem.W.OpenRow.toRowW (PySem.Challenge.rw_pebbletoll_k48_whole_far_counts).row)) s) true (Shared.mk (Hd.hf w.params) (.mk []) (.mk 0 0 0 0) 762 os),Hook.obs (PySem.W.kHook Hd.KK Hd.asK Hd.asK_eq) (Shared.mk (Hd.hf w.params) (.mk []) (.mk 0 0 0 0) 762 os)))=fun _=>(true,openGood qq [],Hook.val (PySem.W.kHook Hd.KK Hd.asK Hd.asK_eq) w):=by kernel_rfl
theorem left:PySem.W.LeftO (PySem.Challenge.rw_pebbletoll_k48_whole_far_counts).row.prog qq [] (fun s=>PySem.W.xlAt Hd.qq [] s && PySem.W.recOk (PySem.W.RowW.records (PySem.W.OpenRow.toRowW (PySem.Challenge.rw_pebbletoll_k48_whole_far_counts).row)) s) (PySem.W.Hook.obs (PySem.W.kHook Hd.KK Hd.asK Hd.asK_eq)) (PySem.W.Hook.val (PySem.W.kHook Hd.KK Hd.asK Hd.asK_eq)) 5984:=LeftO.of_pieces opn siz run (by decide) UN
end Hd
namespace L2
open PySem PySem.Spec PyProof.Rows
abbrev Key:=Sum Int Str
def yW:Key->Value->Bool
 | .inl k,v=>Value.isInt k v
 | .inr x,v=>Value.isStrOf x v
def UY (w:World):Key->Int
 | .inl k=>hashInt k
 | .inr x=>hashStr w x
theorem eD:∀ {k:Key} {v:Value},yW k v=true->(∃ i t,k=Sum.inl i/\v=Value.int i t)\/(∃ x t,k=Sum.inr x/\v=Value.str x t)
 | .inl i,v,h=>by
   obtain ⟨t,e⟩:=Value.isInt_shape (k:=i) (v:=v) h;exact .inl ⟨i,t,rfl,e⟩
 | .inr x,v,h=>by
   obtain ⟨t,e⟩:=Value.isStrOf_shape (x:=x) (v:=v) h;exact .inr ⟨x,t,rfl,e⟩
theorem NQ (i:Int) (t:Tok):yW (.inl i) (.int i t)=true:=by simp [yW,Value.isInt]
theorem Na (x:Str) (t:Tok):yW (.inr x) (.str x t)=true:=by simp [yW,Value.isStrOf]
theorem TN (a b:Int):decide ((Sum.inl a:Key)=Sum.inl b)=(a == b):=by
 by_cases e:a=b
 . subst e;simp
 . have h:¬ (Sum.inl a:Key)=Sum.inl b:=fun q=>e (Sum.inl.inj q);rw [decide_eq_false h];exact (beq_eq_false_iff_ne.mpr e).symm
theorem Tc (a b:Str):decide ((Sum.inr a:Key)=Sum.inr b)=decide (a=b):=by
 by_cases e:a=b
 . subst e;simp
 . have h:¬ (Sum.inr a:Key)=Sum.inr b:=fun q=>e (Sum.inr.inj q);rw [decide_eq_false h,decide_eq_false e]
theorem UD (a:Int) (b:Str):decide ((Sum.inl a:Key)=Sum.inr b)=false:=decide_eq_false (fun q=>nomatch q)
theorem T8 (a:Str) (b:Int):decide ((Sum.inr a:Key)=Sum.inl b)=false:=decide_eq_false (fun q=>nomatch q)
def dH (prog:Program) (w:World):PySem.KeyKind prog w Key where
 is:=yW
 hash:=UY w
 inj:=fun v a b ha hb=>by
   rcases eD ha with ⟨i,t,rfl,rfl⟩|⟨x,t,rfl,rfl⟩
   . rcases eD hb with ⟨j,u,rfl,e⟩|⟨y,u,rfl,e⟩
     . injection e with e1 _;rw [e1]
     . exact nomatch e
   . rcases eD hb with ⟨j,u,rfl,e⟩|⟨y,u,rfl,e⟩
     . exact nomatch e
     . injection e with e1 _;rw [e1]
 byValue:=fun k v h=>by
   rcases eD h with ⟨i,t,rfl,rfl⟩|⟨x,t,rfl,rfl⟩ <;> rfl
 pyHash:=fun hv h=>by
   rcases eD hv with ⟨i,t,rfl,rfl⟩|⟨x,t,rfl,rfl⟩
   . exact wpAny_pyHash_int h
   . exact wpAny_pyHash_str h
 eqBool:=fun hu hv h=>by
   rcases eD hu with ⟨i,t,rfl,rfl⟩|⟨x,t,rfl,rfl⟩
   . rcases eD hv with ⟨j,u,rfl,rfl⟩|⟨y,u,rfl,rfl⟩
     . rw [TN] at h;exact wpAny_eqBool_int h
     . rw [UD] at h;exact SeqAt.EqAt.int_str i t y u _ _ _ _ h
   . rcases eD hv with ⟨j,u,rfl,rfl⟩|⟨y,u,rfl,rfl⟩
     . rw [T8] at h;exact SeqAt.EqAt.str_int x t j u _ _ _ _ h
     . rw [Tc] at h;exact wpAny_eqBool_str h
 «strs»:=fun k x t v h=>by
   rcases eD h with ⟨i,u,rfl,e⟩|⟨y,u,rfl,e⟩
   . exact nomatch e
   . injection e with e1 _
     subst e1;cases v <;> rfl
theorem JD (prog:Program) (w:World) (i:Int) (t:Tok):(dH prog w).is (.inl i) (.int i t)=true:=NQ i t
theorem IE (prog:Program) (w:World) (x:Str) (t:Tok):(dH prog w).is (.inr x) (.str x t)=true:=Na x t
end L2
namespace L2
open PySem PySem.Spec PyProof.Rows
inductive V where
 | non|bl (b:Bool)|int (i:Int)|str (x:Str)|byt (b:Array UInt8)|flt (b:UInt64)|ref (a:Addr)|ty (n:String)
 deriving DecidableEq
def RelV:V->Value->Prop
 | .non,u=>u=Value.none
 | .bl b,u=>u=Value.bool b
 | .int i,u=>∃ t,u=Value.int i t
 | .str x,u=>∃ t,u=Value.str x t
 | .byt b,u=>∃ t,u=Value.bytes b t
 | .flt b,u=>∃ t,u=Value.float b t
 | .ref a,u=>u=Value.ref a
 | .ty n,u=>u=Value.type n
abbrev Vals:List V->List Value->Prop:=Paired RelV
theorem Vals.length {xs:List V} {us:List Value} (r:Vals xs us):xs.length=us.length:=Paired.length r
theorem Vals.get:∀ {xs:List V} {us:List Value} {i:Nat} {x:V},Vals xs us->xs[i]?=some x->∃ u,us[i]?=some u/\RelV x u
 | _,_,_,_,.nil,e=>by simp at e
 | _,_,0,_,.cons r _,e=>by simp at e;subst e;exact ⟨_,rfl,r⟩
 | _,_,i+1,x,.cons _ t,e=>by
   obtain ⟨u,h1,h2⟩:=Vals.get (i:=i) (x:=x) t (by simpa using e);exact ⟨u,by simpa using h1,h2⟩
theorem Vals.set {x:V} {u:Value} (r:RelV x u):∀ {xs:List V} {us:List Value} (i:Nat),Vals xs us->Vals (xs.set i x) (us.set i u)
 | _,_,_,.nil=>.nil
 | _,_,0,.cons _ t=>.cons r t
 | _,_,i+1,.cons q t=>.cons q (Vals.set r i t)
theorem Vals.append:∀ {xs ys:List V} {us ws:List Value},Vals xs us->Vals ys ws->Vals (xs++ys) (us++ws)
 | _,_,_,_,.nil,s=>s
 | _,_,_,_,.cons r t,s=>.cons r (Vals.append t s)
theorem Vals.take:∀ {xs:List V} {us:List Value} (n:Nat),Vals xs us->Vals (xs.take n) (us.take n)
 | _,_,0,_=>.nil
 | _,_,_+1,.nil=>.nil
 | _,_,n+1,.cons r t=>.cons r (Vals.take n t)
theorem Vals.drop:∀ {xs:List V} {us:List Value} (n:Nat),Vals xs us->Vals (xs.drop n) (us.drop n)
 | _,_,0,r=>r
 | _,_,_+1,.nil=>.nil
 | _,_,n+1,.cons _ t=>Vals.drop n t
def RelO:Option V->Option Value->Prop
 | some v,some u=>RelV v u
 | none,none=>True
 | _,_=>False
def KV {κ:Type}:List (κ × V)->List (κ × Value)->Prop:=Paired fun (p:κ × V) (q:κ × Value)=>p.1=q.1/\RelV p.2 q.2
def kV:Key->V
 | .inl i=>.int i
 | .inr x=>.str x
inductive HO where
 /-- a list -/
 | lst (xs:List V)
 /-- a tuple (never changes) -/
 | tup (xs:List V)
 /-- a dict whose keys are ints and texts;one whose keys are tuples of ints and texts (the empty one is both) -/
 | dK (kvs:List (Key × V))|dT (kvs:List (List Key × V))
 /-- a set of ints: its members,its size -/
 | set (S:Int->Bool) (n:Nat)
 /-- an instance of the class at C,its dict at dx,its attributes -/
 | ins (C dx:Addr) (fs:List (Str × V))
 /-- the dict of the instance at x -/
 | own (x:Addr)
 /-- the dict of an exception -/
 | xd (fs:List (Str × V))
 /-- a bound method,f of x -/
 | met (f x:Addr)
 /-- a range object lo,lo+1,.. below hi -/
 | rng (lo hi:Int)
 /-- a thing that is known to the object (the script;a dict while a loop walks it): read,never written while it is so -/
 | frz (o:Obj) (u:HO)
 /-- a code object's table -/
 | tbl (ps:Array Value)
 /-- any other thing,by what is true of its one object (a def of one's own: SetO a S n:=HO.ext fun h=>..) -/
 | ext (φ:Heap->Prop)
abbrev Hp:=Addr->Option HO
def upd (H:Hp) (a:Addr) (o:HO):Hp:=fun b=>if b=a then some o else H b
theorem ah {H:Hp} {a:Addr} {o:HO}:upd H a o a=some o:=by unfold upd;rw [if_pos rfl]
theorem ao {H:Hp} {a b:Addr} {o:HO} (h:b≠a):upd H a o b=H b:=by unfold upd;rw [if_neg h]
theorem qC {H:Hp} {a:Addr} {o u:HO}:upd (upd H a o) a u=upd H a u:=by
 funext b;unfold upd;split <;> rfl
theorem dh {H:Hp} {a b:Addr} {o u:HO} (h:H a=some o) (h':H b=some u) (d:o≠u):a≠b:=by
 intro e;subst e;rw [h] at h';exact d (Option.some.inj h')
theorem ay {H:Hp} {a b:Addr} {o:HO} (h:H a=some o) (h':H b=none):a≠b:=by
 intro e;subst e;rw [h] at h';cases h'
section
variable (P:Program) (w:World)
def ObjOk (H:Hp) (h:Heap) (a:Addr):HO->Prop
 | .lst xs=>xs.length<=sizeLine/\∃ (its:List Value) (n:Nat),Vals xs its/\h.get? a=some { cls:=.type "list",data:=.seq its.toArray n }
 | .tup xs=>xs.length<=sizeLine/\∃ its:List Value,Vals xs its/\IsTup h a its.toArray
 | .dK kvs=>kvs.length<=sizeLine/\(a == sysModules)=false/\∃ vs,KV kvs vs/\h.DictOf (dH P w) a vs
 | .dT kvs=>kvs.length<=sizeLine/\(a == sysModules)=false/\∃ xs:List (List Key × Addr × Value),
     Paired (fun (p:List Key × V) (q:List Key × Addr × Value)=>p.1=q.1/\H q.2.1=some (.tup (p.1.map kV))/\RelV p.2 q.2.2) kvs xs /\
     ∃ o es ep,h.get? a=some o/\o.ExactDict/\o.data=.dict es ep/\es.toList=xs.map (entryOfKey (tupleKind (dH P w)))/\(xs.map (·.1)).Nodup
 | .set S n=>h.SetOf (intKind P w) a S n
 | .ins C dx fs=>H dx=some (.own a)/\fs.length<=1000/\dx≠a/\h.get? a=some (PySem.W.instObj C dx) /\
     ∃ mA,h.Ns1 dx mA/\(∀ f,RelO (fs.lookup f) (mA f))/\PySem.Within mA (fs.map (·.1))
 | .own _=>∃ o,h.get? a=some o
 | .xd fs=>∃ mA,h.Ns1 a mA/\∀ f,RelO (fs.lookup f) (mA f)
 | .rng lo hi=>∃ t u v,h.get? a=some { cls:=.type "range",data:=.fields #[.int lo t,.int hi u,.int 1 v] }
 | .frz o u=>h.get? a=some o/\ObjOk H h a u
 | .tbl ps=>h.get? a=some { cls:=.none,data:=.fields ps }
 | .met f x=>h.get? a=some (PySem.W.methodObj (.ref f) (.ref x))
 | .ext φ=>φ h/\(∃ o,h.get? a=some o)/\∀ h1 h2:Heap,φ h1->(∀ o,h1.get? a=some o->h2.get? a=some o)->φ h2
def HOk (H:Hp) (h:Heap):Prop:=∀ a o,H a=some o->ObjOk P w H h a o
end
section
variable {P:Program} {w:World} {H H':Hp} {h h':Heap} {a:Addr} {o:HO}
theorem ObjOk.lt (x:ObjOk P w H h a o):a<h.objs.size:=by
 cases o with
 | lst xs=>obtain ⟨_,_,_,_,e⟩:=x;exact Heap.lt_size e
 | tup xs=>obtain ⟨_,_,_,p⟩:=x;exact p.lt
 | dK kvs=>obtain ⟨_,_,_,_,o,_,_,e,_⟩:=x;exact Heap.lt_size e
 | dT kvs=>obtain ⟨_,_,_,_,o,_,_,e,_⟩:=x;exact Heap.lt_size e
 | set S n=>obtain ⟨o,_,_,_,e,_⟩:=x;exact Heap.lt_size e
 | ins C dx fs=>obtain ⟨_,_,_,e,_⟩:=x;exact Heap.lt_size e
 | own y=>obtain ⟨_,e⟩:=x;exact Heap.lt_size e
 | xd fs=>obtain ⟨_,⟨_,_,_,e,_⟩,_⟩:=x;exact Heap.lt_size e
 | rng lo hi=>obtain ⟨_,_,_,e⟩:=x;exact Heap.lt_size e
 | frz ob u=>obtain ⟨e,_⟩:=x;exact Heap.lt_size e
 | tbl ps=>exact Heap.lt_size (show h.get? a=some _ from x)
 | met f y=>exact Heap.lt_size (show h.get? a=some _ from x)
 | ext φ=>obtain ⟨_,⟨_,e⟩,_⟩:=x;exact Heap.lt_size e
theorem Paired.mapP {α β:Type} {F G:α->β->Prop}:∀ {l₁:List α} {l₂:List β},Paired F l₁ l₂->(∀ a b,F a b->G a b)->Paired G l₁ l₂
 | _,_,.nil,_=>.nil
 | _,_,.cons r t,f=>.cons (f _ _ r) (Paired.mapP t f)
theorem Paired.imp' {α β:Type} {F G:α->β->Prop} (f:∀ a b,F a b->G a b) {l₁:List α} {l₂:List β} (r:Paired F l₁ l₂):Paired G l₁ l₂:=Paired.mapP r f
theorem ObjOk.stay (x:ObjOk P w H h a o) (k:∀ b u,(b=a\/H b=some (.own a))->h.get? b=some u->h'.get? b=some u)
   (ho:∀ b,H b=some (.own a)->H' b=some (.own a)) (ht:∀ b xs,H b=some (.tup xs)->H' b=some (.tup xs)):ObjOk P w H' h' a o:=by
 induction o with
 | lst xs=>obtain ⟨z,its,n,r,e⟩:=x;exact ⟨z,its,n,r,k _ _ (.inl rfl) e⟩
 | tup xs=>obtain ⟨z,its,r,ob,e,c⟩:=x;exact ⟨z,its,r,ob,k _ _ (.inl rfl) e,c⟩
 | dK kvs=>obtain ⟨z,y,vs,r,ob,es,ep,e,c⟩:=x;exact ⟨z,y,vs,r,ob,es,ep,k _ _ (.inl rfl) e,c⟩
 | dT kvs =>
   obtain ⟨z,y,xs,r,ob,es,ep,e,c⟩:=x;exact ⟨z,y,xs,Paired.mapP r fun p q z=>⟨z.1,ht _ _ z.2.1,z.2.2⟩,ob,es,ep,k _ _ (.inl rfl) e,c⟩
 | set S n=>obtain ⟨ob,es,ep,t,e,c⟩:=x;exact ⟨ob,es,ep,t,k _ _ (.inl rfl) e,c⟩
 | ins C dx fs =>
   obtain ⟨d,z,ne,e,mA,⟨od,es,ep,e2,c⟩,r⟩:=x;exact ⟨ho _ d,z,ne,k _ _ (.inl rfl) e,mA,⟨od,es,ep,k _ _ (.inr d) e2,c⟩,r⟩
 | own y=>obtain ⟨ob,e⟩:=x;exact ⟨ob,k _ _ (.inl rfl) e⟩
 | xd fs=>obtain ⟨mA,⟨od,es,ep,e,c⟩,r⟩:=x;exact ⟨mA,⟨od,es,ep,k _ _ (.inl rfl) e,c⟩,r⟩
 | rng lo hi=>obtain ⟨t,u,v,e⟩:=x;exact ⟨t,u,v,k _ _ (.inl rfl) e⟩
 | frz ob u ih=>obtain ⟨e,q⟩:=x;exact ⟨k _ _ (.inl rfl) e,ih q⟩
 | tbl ps =>
   have e:h.get? a=some { cls:=.none,data:=.fields ps }:=x;show h'.get? a=some { cls:=.none,data:=.fields ps };exact k a _ (.inl rfl) e
 | met f y =>
   have e:h.get? a=some (PySem.W.methodObj (.ref f) (.ref y)):=x;show h'.get? a=some (PySem.W.methodObj (.ref f) (.ref y));exact k a _ (.inl rfl) e
 | ext φ=>obtain ⟨p,⟨o,e⟩,st⟩:=x;exact ⟨st _ _ p fun o q=>k _ _ (.inl rfl) q,⟨o,k _ _ (.inl rfl) e⟩,st⟩
theorem HOk.lt (x:HOk P w H h) (e:H a=some o):a<h.objs.size:=(x a o e).lt
theorem HOk.fresh (x:HOk P w H h) (e:h.objs.size<=a):H a=none:=by
 cases q:H a with
 | none=>rfl
 | some u=>exact absurd (Nat.lt_of_lt_of_le (x.lt q) e) (Nat.lt_irrefl _)
theorem HOk.kept (x:HOk P w H h) (k:∀ b u,h.get? b=some u->h'.get? b=some u):HOk P w H h':=fun a o e =>
 (x a o e).stay (fun b u _ q=>k b u q) (fun _ q=>q) fun _ _ q=>q
theorem HOk.laid (x:HOk P w H h) (k:∀ b u,h.get? b=some u->h'.get? b=some u) (hp:h.objs.size<=a) (new:ObjOk P w (upd H a o) h' a o):HOk P w (upd H a o) h':=fun b u e=>by
 have hn:=x.fresh hp;by_cases hb:b=a
 . subst hb;rw [ah] at e;cases e;exact new
 . rw [ao hb] at e;exact (x b u e).stay (fun c v _ q=>k c v q) (fun c q=>by rw [ao (ay q hn)];exact q) fun c xs q=>by rw [ao (ay q hn)];exact q
end
def Rd (H:Hp) (a:Addr) (u:HO):Prop:=H a=some u\/∃ o,H a=some (.frz o u)
theorem Rd.ok {P:Program} {w:World} {H:Hp} {h:Heap} {a:Addr} {u:HO} (r:Rd H a u) (x:HOk P w H h):ObjOk P w H h a u:=by
 rcases r with r|⟨o,r⟩
 . exact x a u r
 . obtain ⟨_,q⟩:=x a _ r;exact q
def Mut:Option HO->Prop
 | some (.lst _)=>True
 | some (.dK _)=>True
 | some (.dT _)=>True
 | some (.set _ _)=>True
 | some (.ins _ _ _)=>True
 | some (.ext _)=>True
 | _=>False
section
variable {P:Program} {w:World} {H:Hp} {h h':Heap} {x e:Addr} {o':HO}
theorem HOk.write (ok:HOk P w H h) (mu:Mut (H x)) (he:e=x\/H e=some (.own x)) (k:∀ b u,b≠e->h.get? b=some u->h'.get? b=some u) (heo:∃ u,h'.get? e=some u)
   (new:ObjOk P w (upd H x o') h' x o'):HOk P w (upd H x o') h':=fun b u q=>by
 have nown:∀ c y,H c=some (.own y)->c≠x:=fun c y r z=>by subst z;rw [r] at mu;exact mu
 have ntup:∀ c xs,H c=some (.tup xs)->c≠x:=fun c xs r z=>by subst z;rw [r] at mu;exact mu
 by_cases hb:b=x
 . subst hb;rw [ah] at q;cases q;exact new
 . rw [ao hb] at q;by_cases hbe:b=e
   . have q':H b=some (.own x):=by
       rcases he with z|z
       . exact absurd (hbe.trans z) hb
       . rw [hbe];exact z
     rw [q] at q';cases q';obtain ⟨v,hv⟩:=heo;exact ⟨v,by rw [hbe];exact hv⟩
   . refine (ok b u q).stay (fun c v hc r=>k c v ?_ r) (fun c r=>by rw [ao (nown c b r)];exact r) fun c xs r=>by rw [ao (ntup c xs r)];exact r
     rcases hc with rfl|hc
     . exact hbe
     . rintro rfl;rcases he with z|z
       . exact nown c b hc z
       . rw [hc] at z;cases z;exact hb rfl
end
structure Un (fs ex:List Addr) (H H':Hp) (h h':Heap):Prop where
 keep:∀ b o,h.get? b=some o->H b=none->b ∉ fs->b ∉ ex->h'.get? b=some o
 slot:∀ b o,h.get? b=some o->H b=none->b∈fs->b ∉ ex->∃ sl,h'.get? b=some { o with slots:=sl }
 free:∀ b o,h.get? b=some o->H b=none->b ∉ ex->H' b=none
 there:∀ b o,h.get? b=some o->b ∉ ex->∃ o',h'.get? b=some o'
 tups:∀ b xs,H b=some (.tup xs)->H' b=some (.tup xs)
 frzs:∀ b o u,H b=some (.frz o u)->H' b=some (.frz o u)
 tbls:∀ b ps,H b=some (.tbl ps)->∃ more,H' b=some (.tbl (ps++more))
section
variable {fs fs' ex ex':List Addr} {H H1 H2:Hp} {h h1 h2 h':Heap} {a x e:Addr} {o:HO}
theorem Un.any (u:Un fs ex H H1 h h1) {b:Addr} {ob:Obj} (q:h.get? b=some ob) (n:H b=none) (hx:b ∉ ex):∃ sl,h1.get? b=some { ob with slots:=sl }:=by
 by_cases hb:b∈fs
 . exact u.slot b ob q n hb hx
 . exact ⟨ob.slots,u.keep b ob q n hb hx⟩
theorem Un.kept (k:∀ b u,h.get? b=some u->h'.get? b=some u):Un fs ex H H h h' :=
 ⟨fun b ob q _ _ _=>k b ob q,fun b ob q _ _ _=>⟨ob.slots,k b ob q⟩,fun _ _ _ n _=>n,fun b ob q _=>⟨ob,k b ob q⟩,fun _ _ q=>q,fun _ _ _ q=>q,fun _ ps q=>⟨#[],by rw [q];simp⟩⟩
theorem Un.refl:Un fs ex H H h h:=Un.kept fun _ _ q=>q
theorem Un.laid (k:∀ b u,h.get? b=some u->h'.get? b=some u) (hp:h.objs.size<=a) (hn:H a=none):Un fs ex H (upd H a o) h h' where
 keep:=fun b u q _ _ _=>k b u q
 slot:=fun b u q _ _ _=>⟨u.slots,k b u q⟩
 free:=fun b u q n _=>by rw [ao (Nat.ne_of_lt (Nat.lt_of_lt_of_le (Heap.lt_size q) hp))];exact n
 there:=fun b u q _=>⟨u,k b u q⟩
 tups:=fun b xs q=>by rw [ao (ay q hn)];exact q
 frzs:=fun b u xs q=>by rw [ao (ay q hn)];exact q
 tbls:=fun b ps q=>⟨#[],by rw [ao (ay q hn),q];simp⟩
theorem Un.write (mu:Mut (H x)) (he:e=x\/H e=some (.own x)) (k:∀ b u,b≠e->h.get? b=some u->h'.get? b=some u) (heo:∃ u,h'.get? e=some u):Un fs ex H (upd H x o) h h':=by
 have hx:∀ b,H b=none->b≠x:=fun b n z=>by subst z;rw [n] at mu;exact mu
 have hb:∀ b,H b=none->b≠e:=fun b n z=>by
   subst z;rcases he with r|r
   . exact hx b n r
   . rw [n] at r;cases r
 have hm:∀ b u,H b=some u->¬ Mut (some u)->b≠x:=fun b u q nm z=>by subst z;rw [q] at mu;exact nm mu
 refine ⟨fun b u q n _ _=>k b u (hb b n) q,fun b u q n _ _=>⟨u.slots,k b u (hb b n) q⟩,fun b u q n _=>by rw [ao (hx b n)];exact n,fun b u q _=>?_,
   fun b xs q=>by rw [ao (hm b _ q fun z=>z)];exact q,fun b u xs q=>by rw [ao (hm b _ q fun z=>z)];exact q,fun b ps q=>⟨#[],by rw [ao (hm b _ q fun z=>z),q];simp⟩⟩
 by_cases hbe:b=e
 . subst hbe;exact heo
 . exact ⟨u,k b u hbe q⟩
end
def trk (h:Heap) (H:Hp):List Addr:=(List.range h.objs.size).filter fun a=>(H a).isSome
def we (h:Heap) (H:Hp):Heap:=PySem.W.hideAll h (trk h H)
theorem NG (h:Heap) (H:Hp):(we h H).objs.size=h.objs.size:=PySem.W.hideAll_size _ _
theorem Rh {h:Heap} {H:Hp} {b:Addr} {o:Obj} (e:h.get? b=some o) (n:H b=none):(we h H).get? b=some o :=
 PySem.W.hideAll_get _ e fun hm=>by
   have q:(H b).isSome=true:=(List.mem_filter.mp hm).2;rw [n] at q;simp at q
theorem Sl {h:Heap} {H:Hp} {b:Addr} {o:Obj} (e:(we h H).get? b=some o):h.get? b=some o/\H b=none:=by
 have e':h.get? b=some o:=PySem.W.of_hideAll (trk h H) e;refine ⟨e',?_⟩;cases q:H b with
 | none=>rfl
 | some x =>
   have hm:b∈trk h H:=List.mem_filter.mpr ⟨List.mem_range.mpr (Heap.lt_size e'),by simp [q]⟩;have z:(we h H).get? b=none:=PySem.W.hideAll_none (trk h H) hm;rw [z] at e;cases e
def Sa (g h:Heap) (L:Addr):List (Addr × Obj):=(List.range h.objs.size).filterMap fun a=>if a=L\/(g.get? a).isSome=true then none else (h.get? a).map fun o=>(a,o)
def rest (g h:Heap) (L d:Addr):List (Addr × Obj):=(Sa g h L).filter fun p=>decide (p.1≠d)
end L2
namespace L2
open PySem PySem.Spec PyProof.Rows
structure Mod (K:PySem.W.Frag) (mg:Str->Option Value) (base:Heap):Prop where
 kin:K.In base
 glob:base.Ns mainGlobals mg
 blt:∃ mb,base.Ns builtinsNs mb/\∀ x:Str,x≠"__name__"->mb x=bootBuiltins x
 nolimit:base.NoLimit
structure Cx where
 prog:Program
 w:World
 K:PySem.W.Frag
 mg:Str->Option Value
 base:Heap
 A:Around
 N:List Str
 s₀:Shared
 H₀:Hp
 env:Env
 outer:List Env
 stack:List Env
 ex:List Addr
 fn:Str->Bool
 calm:Bool
 pn:List (Addr × Obj)
 xe:Value->Shared->Prop
def frs (l:List Env):List Addr:=l.filterMap (·.frame)
abbrev Cx.fs (X:Cx):List Addr:=frs X.outer
def Vis (sc:Scope) (x:Str):Prop:=sc.names.lookup x=some .local\/sc.names.lookup x=some .cell\/sc.names.lookup x=some .free
def Loc (sc:Scope) (x:Str):Prop:=sc.names.lookup x=some .local\/sc.names.lookup x=some .cell
def UW (env:Env) (h:Heap) (m:Str->Option Value) (x:Str) (u:Value):Prop :=
 (env.kindOf x=some .local/\m x=some u)\/((env.kindOf x=some .cell\/env.kindOf x=some .free)/\∃ c,env.cells.lookup x=some c/\h.IsCell c (some u))
structure Cx.Ok (X:Cx):Prop where
 mod:Mod X.K X.mg X.base
 kind:X.env.scope.kind=.function
 glob:X.env.globals=mainGlobals
 blt:X.env.builtins=builtinsNs
 above:X.s₀.heap.objs.size<=X.env.locals
 inj:∀ x y c,X.env.cells.lookup x=some c->X.env.cells.lookup y=some c->x=y
 has:∀ x,(X.env.kindOf x=some .cell\/X.env.kindOf x=some .free)->∃ c,X.env.cells.lookup x=some c
 cab:∀ x c,X.fn x=true->X.env.cells.lookup x=some c->X.s₀.heap.objs.size<=c
 hd:X.calm=true->X.A.handled=none
 frames:X.A.frames=some X.stack
 stk:X.stack=X.outer\/(X.stack=X.env::X.outer/\X.env.frame=some X.env.locals)
 exf:∀ b∈X.ex,b≠X.env.locals/\∀ x c,X.env.cells.lookup x=some c->c≠b
 bs:∀ b o,X.base.get? b=some o->X.s₀.heap.get? b=some o/\X.H₀ b=none
 bsz:X.base.objs.size<=X.s₀.heap.objs.size
 noex:∀ b o,X.base.get? b=some o->b ∉ X.ex
 exfs:∀ b∈X.ex,b ∉ X.fs
 funs:X.s₀.heap.FunFrames X.base X.outer
 frf:∀ b∈X.fs,X.H₀ b=none
structure Inv (X:Cx) (pins:List (Addr × Obj)) (σ:List (Option V)) (H:Hp) (s:Shared):Prop where
 ok:X.Ok
 os:s.os=X.s₀.os
 bare:AllBare s.gens
 base:Un X.fs X.ex X.H₀ H X.s₀.heap s.heap
 loc:∃ m,s.heap.Ns X.env.locals m/\∀ (i:Nat) (x:Str) (v:V),X.N[i]?=some x->σ[i]?=some (some v)->Vis X.env.scope x->∃ u,RelV v u/\UW X.env s.heap m x u
 cell:∀ x c,X.env.cells.lookup x=some c->∃ v,s.heap.IsCell c v
 free:H X.env.locals=none
 freeC:∀ x c,X.env.cells.lookup x=some c->H c=none
 pin:∀ p∈X.pn++pins,s.heap.get? p.1=some p.2/\H p.1=none/\p.1≠X.env.locals/\p.1 ∉ X.fs/\∀ v,p.2.data≠.cell v
 hok:HOk X.prog X.w H s.heap
 len:σ.length=X.N.length
section
variable {X:Cx} {pins:List (Addr × Obj)} {σ:List (Option V)} {H H':Hp} {s:Shared} {h':Heap}
theorem Cx.Ok.nofr (ok:X.Ok) {b:Addr} {o:Obj} (e:X.base.get? b=some o):b ∉ X.fs:=fun hb=>by
 have:=(ok.funs.mem hb).1;rw [e] at this;cases this
theorem Inv.bs (I:Inv X pins σ H s):∀ b o,X.base.get? b=some o->s.heap.get? b=some o/\H b=none:=fun b o e =>
 ⟨I.base.keep b o (I.ok.bs b o e).1 (I.ok.bs b o e).2 (I.ok.nofr e) (I.ok.noex b o e),I.base.free b o (I.ok.bs b o e).1 (I.ok.bs b o e).2 (I.ok.noex b o e)⟩
theorem Inv.bk (I:Inv X pins σ H s):∀ b o,X.base.get? b=some o->s.heap.get? b=some o:=fun b o e=>(I.bs b o e).1
theorem Inv.mod (I:Inv X pins σ H s):Mod X.K X.mg X.base:=I.ok.mod
theorem Inv.kIn (I:Inv X pins σ H s):X.K.In s.heap:=I.ok.mod.kin.keeps I.bk
theorem Inv.lt (I:Inv X pins σ H s):X.env.locals<s.heap.objs.size:=let ⟨_,hn,_⟩:=I.loc;hn.lt
theorem Inv.sz (I:Inv X pins σ H s):X.s₀.heap.objs.size<=s.heap.objs.size:=Nat.le_trans I.ok.above (Nat.le_of_lt I.lt)
theorem Inv.nofs (I:Inv X pins σ H s) {a:Addr} (h:s.heap.objs.size<=a):a ∉ X.fs:=fun hb=>by
 obtain ⟨_,o,ho,_⟩:=I.ok.funs.mem hb;exact absurd (Nat.lt_of_lt_of_le (Heap.lt_size ho) (Nat.le_trans I.sz h)) (Nat.lt_irrefl _)
theorem Inv.cne (I:Inv X pins σ H s):∀ x c,X.env.cells.lookup x=some c->c≠X.env.locals:=fun x c e z=>by
 obtain ⟨v,o,ho,hd⟩:=I.cell x c e;obtain ⟨m,⟨o',es,ep,ho',hd',_⟩,_⟩:=I.loc;rw [z,ho'] at ho;cases ho;rw [hd'] at hd;cases hd
theorem Inv.funs (I:Inv X pins σ H s):s.heap.FunFrames X.base X.outer:=by
 have all:∀ (l:List Env),(∀ b∈frs l,b∈X.fs)->X.s₀.heap.FunFrames X.base l->s.heap.FunFrames X.base l:=by
   intro l
   induction l with
   | nil=>intro _ _;trivial
   | cons env r ih =>
     intro hs hl;obtain ⟨hk,⟨L,o,hf,hn,ho,hd⟩,hr⟩:=hl;have hL:L∈X.fs:=hs L (by unfold frs;rw [List.filterMap_cons,hf];exact List.mem_cons_self);obtain ⟨sl,e⟩:=I.base.slot L o ho (I.ok.frf L hL) hL fun z=>I.ok.exfs L z hL;exact ⟨hk,⟨L,_,hf,hn,e,hd⟩,ih (fun b hb=>hs b (by unfold frs;rw [List.filterMap_cons,hf];exact List.mem_cons_of_mem _ hb)) hr⟩
 exact all X.outer (fun _ hb=>hb) I.ok.funs
theorem Inv.stack (I:Inv X pins σ H s):s.heap.FunFrames X.base X.stack:=by
 rcases I.ok.stk with e|⟨e,hf⟩
 . rw [e];exact I.funs
 . rw [e];obtain ⟨m,hn,_⟩:=I.loc;refine .cons (by rw [I.ok.kind];decide) hf hn ?_ I.funs;exact Heap.get?_none_of_le (Nat.le_trans I.ok.bsz I.ok.above)
theorem Inv.stkSub (I:Inv X pins σ H s):∀ b∈frs X.stack,b∈X.env.locals::X.fs:=fun b hb=>by
 rcases I.ok.stk with e|⟨e,hf⟩
 . rw [e] at hb;exact List.mem_cons_of_mem _ hb
 . rw [e] at hb;unfold frs at hb;rw [List.filterMap_cons,hf] at hb;exact hb
theorem Inv.stkFree (I:Inv X pins σ H s):∀ b∈frs X.stack,H b=none:=fun b hb=>by
 rcases List.mem_cons.mp (I.stkSub b hb) with e|hb
 . rw [e];exact I.free
 . obtain ⟨_,o,ho,_⟩:=I.ok.funs.mem hb;exact I.base.free b o ho (I.ok.frf b hb) fun z=>I.ok.exfs b z hb
theorem Inv.step {g':Array GenState} {t':Nat} {d':Drawn} {ch:List Addr} (I:Inv X pins σ H s)
   (hch:∀ b∈ch,(b∈X.ex\/X.s₀.heap.objs.size<=b)/\b≠X.env.locals/\(∀ x c,X.env.cells.lookup x=some c->c≠b)/\∀ p∈X.pn++pins,p.1≠b)
   (keep:∀ b o,b≠X.env.locals->b ∉ X.fs->b ∉ ch->s.heap.get? b=some o->H b=none->h'.get? b=some o)
   (slot:∀ b o,b≠X.env.locals->b∈X.fs->b ∉ ch->s.heap.get? b=some o->H b=none->∃ sl,h'.get? b=some { o with slots:=sl }) (free:∀ b o,b ∉ ch->s.heap.get? b=some o->H b=none->H' b=none)
   (there:∀ b o,b ∉ ch->s.heap.get? b=some o->∃ o',h'.get? b=some o')
   (tups:∀ b xs,H b=some (.tup xs)->H' b=some (.tup xs)) (frzs:∀ b o u,H b=some (.frz o u)->H' b=some (.frz o u)) (tbls:∀ b ps,H b=some (.tbl ps)->∃ more,H' b=some (.tbl (ps++more)))
   (ns:∀ m,s.heap.Ns X.env.locals m->h'.Ns X.env.locals m) (hok:HOk X.prog X.w H' h') (hg:AllBare g') :
   Inv X pins σ H' { s with heap:=h',gens:=g',drawn:=d',toks:=t' }:=by
 have neL:∀ b o,X.s₀.heap.get? b=some o->b≠X.env.locals:=fun b o e=>Nat.ne_of_lt (Nat.lt_of_lt_of_le (Heap.lt_size e) I.ok.above);have neC:∀ b o,X.s₀.heap.get? b=some o->b ∉ X.ex->b ∉ ch:=fun b o e hx hb=>by
   rcases (hch b hb).1 with z|z
   . exact hx z
   . exact absurd (Nat.lt_of_lt_of_le (Heap.lt_size e) z) (Nat.lt_irrefl _)
 have cellK:∀ x c,X.env.cells.lookup x=some c->∀ v,s.heap.IsCell c v->h'.IsCell c v:=fun x c e v ⟨o,ho,hd⟩=>by
   have nch:c ∉ ch:=fun z=>(hch c z).2.2.1 x c e rfl;by_cases hc:c∈X.fs
   . obtain ⟨sl,q⟩:=slot c o (I.cne x c e) hc nch ho (I.freeC x c e);exact ⟨_,q,hd⟩
   . exact ⟨o,keep c o (I.cne x c e) hc nch ho (I.freeC x c e),hd⟩
 refine ⟨I.ok,I.os,hg,⟨fun b o e n hb hx=>?_,fun b o e n hb hx=>?_,fun b o e n hx=>?_,fun b o e hx=>?_,fun b xs e=>tups b xs (I.base.tups b xs e),fun b o xs e=>frzs b o xs (I.base.frzs b o xs e),fun b ps e=>?_⟩,?_,fun x c e=>?_,?_,fun x c e=>?_,fun p hp=>?_,hok,I.len⟩
 . exact keep b o (neL b o e) hb (neC b o e hx) (I.base.keep b o e n hb hx) (I.base.free b o e n hx)
 . obtain ⟨sl,e1⟩:=I.base.slot b o e n hb hx;obtain ⟨sl',e2⟩:=slot b _ (neL b o e) hb (neC b o e hx) e1 (I.base.free b o e n hx);exact ⟨sl',e2⟩
 . obtain ⟨o',e1⟩:=I.base.there b o e hx;exact free b o' (neC b o e hx) e1 (I.base.free b o e n hx)
 . obtain ⟨o',e1⟩:=I.base.there b o e hx;exact there b o' (neC b o e hx) e1
 . obtain ⟨m1,e1⟩:=I.base.tbls b ps e;obtain ⟨m2,e2⟩:=tbls b _ e1;exact ⟨m1++m2,by rw [e2,Array.append_assoc]⟩
 . obtain ⟨m,hn,hl⟩:=I.loc;refine ⟨m,ns m hn,fun i x v e1 e2 e3=>?_⟩;obtain ⟨u,r,l⟩:=hl i x v e1 e2 e3;refine ⟨u,r,?_⟩;rcases l with l|⟨k,c,e,z⟩
   . exact .inl l
   . exact .inr ⟨k,c,e,cellK x c e _ z⟩
 . obtain ⟨v,z⟩:=I.cell x c e;exact ⟨v,cellK x c e v z⟩
 . obtain ⟨m,⟨o,_,_,ho,_⟩,_⟩:=I.loc;exact free _ o (fun z=>(hch _ z).2.1 rfl) ho I.free
 . obtain ⟨v,o,ho,hd⟩:=I.cell x c e;exact free c o (fun z=>(hch c z).2.2.1 x c e rfl) ho (I.freeC x c e)
 . obtain ⟨e,n,ne,nf,d⟩:=I.pin p hp;have nch:p.1 ∉ ch:=fun z=>(hch p.1 z).2.2.2 p hp rfl;exact ⟨keep p.1 p.2 ne nf nch e n,free p.1 p.2 nch e n,ne,nf,d⟩
theorem Inv.un {t':Nat} (I:Inv X pins σ H s) (u:Un X.fs [] H H' s.heap h') (hok:HOk X.prog X.w H' h'):Inv X pins σ H' { s with heap:=h',toks:=t' }:=by
 obtain ⟨m,⟨o,es,ep,ho,r⟩,_⟩:=id I.loc;obtain ⟨sl,hL⟩:=u.any ho I.free (by simp);exact I.step (g':=s.gens) (d':=s.drawn) (ch:=[]) (fun _ z=>nomatch z) (fun b o _ hb _ e n=>u.keep b o e n hb (by simp)) (fun b o _ hb _ e n=>u.slot b o e n hb (by simp)) (fun b o _ e n=>u.free b o e n (by simp)) (fun b o _ e=>u.there b o e (by simp)) u.tups u.frzs u.tbls (fun m' hm=>by
   obtain ⟨o',es',ep',ho',r'⟩:=hm;rw [ho] at ho';cases ho';exact ⟨_,es',ep',hL,r'⟩) hok I.bare
theorem Inv.call {g':Array GenState} {t':Nat} {d':Drawn} {ch:List Addr} (I:Inv X pins σ H s) (u:Un (frs X.stack) ch H H' s.heap h') (hok:HOk X.prog X.w H' h') (hg:AllBare g')
   (hch:∀ b∈ch,(b∈X.ex\/X.s₀.heap.objs.size<=b)/\b≠X.env.locals/\(∀ x c,X.env.cells.lookup x=some c->c≠b)/\∀ p∈X.pn++pins,p.1≠b) :
   Inv X pins σ H' { s with heap:=h',gens:=g',drawn:=d',toks:=t' }:=by
 obtain ⟨m,⟨o,es,ep,ho,r⟩,_⟩:=id I.loc;obtain ⟨sl,hL⟩:=u.any ho I.free fun z=>(hch _ z).2.1 rfl;exact I.step (ch:=ch) hch (fun b o hL hb hc e n=>u.keep b o e n (fun z=>(List.mem_cons.mp (I.stkSub b z)).elim hL hb) hc) (fun b o _ _ hc e n=>u.any e n hc) (fun b o hc e n=>u.free b o e n hc) (fun b o hc e=>u.there b o e hc) u.tups u.frzs u.tbls (fun m' hm=>by
   obtain ⟨o',es',ep',ho',r'⟩:=hm;rw [ho] at ho';cases ho';exact ⟨_,es',ep',hL,r'⟩) hok hg
theorem Inv.turned {t':Nat} {it:Addr} (I:Inv X pins σ H s) (k:∀ b o,b≠it->s.heap.get? b=some o->h'.get? b=some o) (hn:H it=none) (hL:it≠X.env.locals)
   (h1:it∈X.ex\/X.s₀.heap.objs.size<=it) (h2:∀ x c,X.env.cells.lookup x=some c->c≠it) (h3:∀ p∈X.pn++pins,p.1≠it):Inv X pins σ H { s with heap:=h',toks:=t' }:=by
 have nit:∀ b u,H b=some u->b≠it:=fun b u e z=>by rw [z,hn] at e;cases e
 refine I.step (g':=s.gens) (d':=s.drawn) (ch:=[it]) (fun b hb=>?_) (fun b o _ _ hc e _=>k b o (fun z=>hc (by simp [z])) e) (fun b o _ _ hc e _=>⟨o.slots,k b o (fun z=>hc (by simp [z])) e⟩) (fun _ _ _ _ n=>n)
   (fun b o hc e=>⟨o,k b o (fun z=>hc (by simp [z])) e⟩) (fun _ _ e=>e) (fun _ _ _ e=>e) (fun b ps e=>⟨#[],by rw [e];simp⟩) (fun m hm=>?_) (fun b u e=>?_) I.bare
 . have e:b=it:=by simpa using hb
   subst e;exact ⟨h1,hL,h2,h3⟩
 . obtain ⟨o,es,ep,ho,r⟩:=hm;exact ⟨o,es,ep,k _ o (Ne.symm hL) ho,r⟩
 . refine (I.hok b u e).stay (fun c v hc q=>k c v ?_ q) (fun _ q=>q) fun _ _ q=>q;rcases hc with z|z
   . rw [z];exact nit b u e
   . exact nit c _ z
theorem Inv.tok (I:Inv X pins σ H s) (t:Nat):Inv X pins σ H { s with toks:=t }:=I.un (h':=s.heap) (t':=t) Un.refl I.hok
theorem Inv.kept {t':Nat} (I:Inv X pins σ H s) (k:∀ b u,s.heap.get? b=some u->h'.get? b=some u):Inv X pins σ H { s with heap:=h',toks:=t' }:=I.un (Un.kept k) (I.hok.kept k)
theorem Inv.laid {a:Addr} {o:HO} {t':Nat} (I:Inv X pins σ H s) (k:∀ b u,s.heap.get? b=some u->h'.get? b=some u) (hp:s.heap.objs.size<=a) (new:ObjOk X.prog X.w (upd H a o) h' a o) :
   Inv X pins σ (upd H a o) { s with heap:=h',toks:=t' }:=I.un (Un.laid k hp (I.hok.fresh hp)) (I.hok.laid k hp new)
theorem Inv.write {x e:Addr} {o:HO} {t':Nat} (I:Inv X pins σ H s) (mu:Mut (H x)) (he:e=x\/H e=some (.own x)) (k:∀ b u,b≠e->s.heap.get? b=some u->h'.get? b=some u) (heo:∃ u,h'.get? e=some u)
   (new:ObjOk X.prog X.w (upd H x o) h' x o):Inv X pins σ (upd H x o) { s with heap:=h',toks:=t' }:=I.un (Un.write mu he k heo) (I.hok.write mu he k heo new)
theorem Inv.pins_of {pins':List (Addr × Obj)} (I:Inv X pins σ H s) (h:∀ p∈pins',s.heap.get? p.1=some p.2/\H p.1=none/\p.1≠X.env.locals/\p.1 ∉ X.fs/\∀ v,p.2.data≠.cell v):Inv X pins' σ H s :=
 ⟨I.ok,I.os,I.bare,I.base,I.loc,I.cell,I.free,I.freeC,fun p hp=>(List.mem_append.mp hp).elim (fun z=>I.pin p (List.mem_append_left _ z)) (h p),I.hok,I.len⟩
theorem GK {N:List Str} (hN:N.Nodup) {i j:Nat} {x:Str} (a:N[i]?=some x) (b:N[j]?=some x):i=j:=by
 obtain ⟨h1,e1⟩:=List.getElem?_eq_some_iff.mp a;obtain ⟨h2,e2⟩:=List.getElem?_eq_some_iff.mp b;exact (List.getElem_inj hN).mp (e1.trans e2.symm)
theorem Es {M:Model} {A:Around} {E:Value->Shared->Prop} {i:Nat} {x:Str} {v:V} {u:Value} {Q:Unit->Shared->Prop} (I:Inv X pins σ H s) (hN:X.N.Nodup) (hi:X.N[i]?=some x) (hx:Loc X.env.scope x) (r:RelV v u)
   (h:∀ s',Inv X pins (σ.set i (some v)) H s'->(∃ a,Heap.SameBut a s.heap s'.heap/\(a=X.env.locals\/X.env.cells.lookup x=some a))->Q () s') (hf:X.fn x=true\/X.env.scope.names.lookup x=some .local:=by first|exact .inl rfl|exact .inr rfl|assumption):wpAny M A (storeName X.env x u) Q E s:=by
 obtain ⟨m,hn,hl⟩:=id I.loc;have hcls:(X.env.scope.kind == .class || (X.env.scope.kind == .module && X.env.locals != X.env.globals))=false:=by rw [I.ok.kind];rfl
 have hiσ:i<σ.length:=by rw [I.len];exact (List.getElem?_eq_some_iff.mp hi).1
 have cne:=I.cne;have tracked:∀ {a:Addr} {h':Heap},(∃ o,s.heap.get? a=some o/\H a=none)->Heap.SameBut a s.heap h'->HOk X.prog X.w H h':=fun {a h'} ha hs b ob e=>by
   obtain ⟨_,_,hfree⟩:=ha;refine (I.hok b ob e).stay (fun c w' hc q=>(hs.2 c ?_).trans q) (fun _ q=>q) fun _ _ q=>q;rintro rfl;rcases hc with rfl|hc
   . rw [hfree] at e;cases e
   . rw [hfree] at hc;cases hc
 rcases hx with hk|hk
 . refine wpAny_storeName_local hk hn (fun h' hn' hs=>?_) hcls;obtain ⟨oL,_,_,hoL,_⟩:=id hn;refine h _ ⟨I.ok,I.os,I.bare,⟨fun b o e n hb hx=>?_,fun b o e n hb hx=>?_,I.base.free,fun b o e hx=>?_,I.base.tups,I.base.frzs,I.base.tbls⟩,⟨_,hn',fun j y v' e1 e2 e3=>?_⟩,fun y c e=>?_,I.free,I.freeC,fun p hp=>?_,tracked ⟨oL,hoL,I.free⟩ hs,by simpa using I.len⟩ ⟨_,hs,.inl rfl⟩
   . exact (hs.2 b (Nat.ne_of_lt (Nat.lt_of_lt_of_le (Heap.lt_size e) I.ok.above))).trans (I.base.keep b o e n hb hx)
   . obtain ⟨sl,e1⟩:=I.base.slot b o e n hb hx;exact ⟨sl,(hs.2 b (Nat.ne_of_lt (Nat.lt_of_lt_of_le (Heap.lt_size e) I.ok.above))).trans e1⟩
   . obtain ⟨o',e1⟩:=I.base.there b o e hx;exact ⟨o',(hs.2 b (Nat.ne_of_lt (Nat.lt_of_lt_of_le (Heap.lt_size e) I.ok.above))).trans e1⟩
   . by_cases hj:j=i
     . subst hj;rw [hi] at e1;cases e1;rw [List.getElem?_set_self hiσ] at e2;cases e2;exact ⟨u,r,.inl ⟨hk,by simp⟩⟩
     . rw [List.getElem?_set_ne (Ne.symm hj)] at e2;obtain ⟨u',r',q⟩:=hl j y v' e1 e2 e3;refine ⟨u',r',?_⟩;rcases q with ⟨k,e⟩|⟨k,c,e,z⟩
       . refine .inl ⟨k,?_⟩;have:y≠x:=fun e=>hj (GK hN e1 (e ▸ hi));simp [this,e]
       . exact .inr ⟨k,c,e,z.sameBut hs (cne y c e)⟩
   . obtain ⟨w',z⟩:=I.cell y c e;exact ⟨w',z.sameBut hs (cne y c e)⟩
   . obtain ⟨e,n,ne,nf,d⟩:=I.pin p hp;exact ⟨(hs.2 p.1 ne).trans e,n,ne,nf,d⟩
 . have hfn:X.fn x=true:=by
     rcases hf with z|z
     . exact z
     . rw [z] at hk;cases hk
   obtain ⟨c,hc⟩:=I.ok.has x (.inl hk);obtain ⟨w',z⟩:=I.cell x c hc;refine wpAny_storeName_cell I.ok.kind hk hc z (fun h' hc' hs=>?_);obtain ⟨oc,hoc,hocd⟩:=id z;refine h { s with heap:=h' } ⟨I.ok,I.os,I.bare,⟨fun b o e n hb hx=>?_,fun b o e n hb hx=>?_,I.base.free,fun b o e hx=>?_,I.base.tups,I.base.frzs,I.base.tbls⟩,⟨m,hn.sameBut hs (Ne.symm (cne x c hc)),fun j y v' e1 e2 e3=>?_⟩,fun y c' e=>?_,I.free,I.freeC,fun p hp=>?_,tracked ⟨oc,hoc,I.freeC x c hc⟩ hs,by simpa using I.len⟩ ⟨c,hs,.inr hc⟩
   . exact (hs.2 b (Nat.ne_of_lt (Nat.lt_of_lt_of_le (Heap.lt_size e) (I.ok.cab x c hfn hc)))).trans (I.base.keep b o e n hb hx)
   . obtain ⟨sl,e1⟩:=I.base.slot b o e n hb hx;exact ⟨sl,(hs.2 b (Nat.ne_of_lt (Nat.lt_of_lt_of_le (Heap.lt_size e) (I.ok.cab x c hfn hc)))).trans e1⟩
   . obtain ⟨o',e1⟩:=I.base.there b o e hx;exact ⟨o',(hs.2 b (Nat.ne_of_lt (Nat.lt_of_lt_of_le (Heap.lt_size e) (I.ok.cab x c hfn hc)))).trans e1⟩
   . by_cases hj:j=i
     . subst hj;rw [hi] at e1;cases e1;rw [List.getElem?_set_self hiσ] at e2;cases e2;exact ⟨u,r,.inr ⟨.inl hk,c,hc,hc'⟩⟩
     . rw [List.getElem?_set_ne (Ne.symm hj)] at e2;obtain ⟨u',r',q⟩:=hl j y v' e1 e2 e3;refine ⟨u',r',?_⟩;rcases q with q|⟨k,c',e,z'⟩
       . exact .inl q
       . refine .inr ⟨k,c',e,z'.sameBut hs ?_⟩;rintro rfl;exact hj (GK hN e1 (I.ok.inj _ _ _ e hc ▸ hi))
   . by_cases hcc:c'=c
     . subst hcc;exact ⟨_,hc'⟩
     . obtain ⟨w2,z2⟩:=I.cell y c' e;exact ⟨w2,z2.sameBut hs hcc⟩
   . obtain ⟨e,n,ne,nf,d⟩:=I.pin p hp;refine ⟨(hs.2 p.1 ?_).trans e,n,ne,nf,d⟩;intro q;rw [q,hoc] at e;have q':oc=p.2:=Option.some.inj e;exact d w' (by rw [<- q'];exact hocd)
theorem AG {M:Model} {A:Around} {E:Value->Shared->Prop} {i:Nat} {x:Str} {v:V} {u:Value} {Q:Unit->Shared->Prop} (I:Inv X pins σ H s) (hN:X.N.Nodup) (hi:X.N[i]?=some x) (hx:Loc X.env.scope x) (r:RelV v u)
   (h:∀ s',Inv X pins (σ.set i (some v)) H s'->Q () s') (hf:X.fn x=true\/X.env.scope.names.lookup x=some .local:=by first|exact .inl rfl|exact .inr rfl|assumption):wpAny M A (storeName X.env x u) Q E s :=
 Es I hN hi hx r (fun s' I' _=>h s' I') hf
theorem Inv.call' {s':Shared} {ch:List Addr} (I:Inv X pins σ H s) (ho:s'.os=s.os) (u:Un (frs X.stack) ch H H' s.heap s'.heap) (hok:HOk X.prog X.w H' s'.heap) (hg:AllBare s'.gens)
   (hch:∀ b∈ch,(b∈X.ex\/X.s₀.heap.objs.size<=b)/\b≠X.env.locals/\(∀ x c,X.env.cells.lookup x=some c->c≠b)/\∀ p∈X.pn++pins,p.1≠b):Inv X pins σ H' s':=by
 obtain ⟨h',g',d',t',o'⟩:=s';have e:o'=s.os:=ho;subst e;exact I.call (g':=g') (t':=t') (d':=d') u hok hg hch
end
abbrev XK:=Value->Option Addr->Hp->Prop
abbrev St:=List (Option V)
abbrev VK:=V->Hp->Prop
abbrev TE:=St->Hp->VK->Prop
abbrev TT:=St->Hp->(Bool->Hp->Prop)->Prop
abbrev TA:=St->Hp->(List V->Hp->Prop)->Prop
structure Ends where
 nx:St->Hp->Prop
 rt:VK
 bk:St->Hp->Prop:=fun _ _=>False
 ct:St->Hp->Prop:=fun _ _=>False
abbrev TS:=Ends->St->Hp->Prop
def EP (X:Cx) (pins:List (Addr × Obj)) (σ:St) (Q:VK) (u:Value) (s':Shared):Prop:=∃ v H',Inv X pins σ H' s'/\RelV v u/\Q v H'
def TP (X:Cx) (pins:List (Addr × Obj)) (σ:St) (Q:Bool->Hp->Prop) (b:Bool) (s':Shared):Prop:=∃ H',Inv X pins σ H' s'/\Q b H'
def AP (X:Cx) (pins:List (Addr × Obj)) (σ:St) (Q:List V->Hp->Prop) (us:List Value) (s':Shared):Prop:=∃ vs H',Inv X pins σ H' s'/\Vals vs us/\Q vs H'
def SP (X:Cx) (pins:List (Addr × Obj)) (D:Ends) (f:Flow) (s':Shared):Prop :=
 match f with
 | .next=>∃ σ' H',Inv X pins σ' H' s'/\D.nx σ' H'
 | .brk=>∃ σ' H',Inv X pins σ' H' s'/\D.bk σ' H'
 | .cont=>∃ σ' H',Inv X pins σ' H' s'/\D.ct σ' H'
 | .ret u=>∃ v σ' H',Inv X pins σ' H' s'/\RelV v u/\D.rt v H'
def PE (X:Cx) (e:Expr) (t:TE):Prop :=
 ∀ (pins:List (Addr × Obj)) (s:Shared) (σ:St) (H:Hp) (Q:VK),Inv X pins σ H s->t σ H Q->wpAny (model X.prog X.w) X.A (eval e X.env) (EP X pins σ Q) X.xe s
def PT (X:Cx) (e:Expr) (t:TT):Prop :=
 ∀ (pins:List (Addr × Obj)) (s:Shared) (σ:St) (H:Hp) (Q:Bool->Hp->Prop),Inv X pins σ H s->t σ H Q->wpAny (model X.prog X.w) X.A (isTrue e X.env (eval e X.env)) (TP X pins σ Q) X.xe s
def PW (X:Cx) (e:Expr) (t:TT):Prop :=
 ∀ (whole:Sem Value) (pins:List (Addr × Obj)) (s:Shared) (σ:St) (H:Hp) (Q:Bool->Hp->Prop),Inv X pins σ H s->t σ H Q->wpAny (model X.prog X.w) X.A (isTrue e X.env whole) (TP X pins σ Q) X.xe s
theorem PW.pt {X:Cx} {e:Expr} {t:TT} (h:PW X e t):PT X e t:=h _
def PA (X:Cx) (es:List Expr) (t:TA):Prop :=
 ∀ (pos:Pos) (pins:List (Addr × Obj)) (s:Shared) (σ:St) (H:Hp) (Q:List V->Hp->Prop),Inv X pins σ H s->t σ H Q->wpAny (model X.prog X.w) X.A (spliced (backTo pos (starEach es X.env))) (AP X pins σ Q) X.xe s
def PS (X:Cx) (st:Stmt) (t:TS):Prop :=
 ∀ (pins:List (Addr × Obj)) (s:Shared) (σ:St) (H:Hp) (D:Ends),Inv X pins σ H s->t D σ H->wpAny (model X.prog X.w) X.A (exec st X.env) (SP X pins D) X.xe s
def PSs (X:Cx) (st:List Stmt) (t:TS):Prop :=
 ∀ (pins:List (Addr × Obj)) (s:Shared) (σ:St) (H:Hp) (D:Ends),Inv X pins σ H s->t D σ H->wpAny (model X.prog X.w) X.A (execs st X.env) (SP X pins D) X.xe s
theorem thn {α:Type} {t:Sem α} {Q Q':α->Shared->Prop} {M:Model} {A:Around} {E:Value->Shared->Prop} {s:Shared} (h:wpAny M A t Q E s) (hQ:∀ a s,Q a s->Q' a s):wpAny M A t Q' E s:=wpAny_mono h hQ fun _ _ x=>x
theorem bx {t:Sem Value} {X:Cx} {pins:List (Addr × Obj)} {σ:St} {Q:VK} {Q':Value->Shared->Prop} {M:Model} {A:Around} {E:Value->Shared->Prop} {s:Shared} (h:wpAny M A t (EP X pins σ Q) E s) (hQ:∀ u s v H,Inv X pins σ H s->RelV v u->Q v H->Q' u s):wpAny M A t Q' E s:=thn h fun u s ⟨v,H,I,r,q⟩=>hQ u s v H I r q
theorem tq {t:Sem (List Value)} {X:Cx} {pins:List (Addr × Obj)} {σ:St} {Q:List V->Hp->Prop} {Q':List Value->Shared->Prop} {M:Model} {A:Around} {E:Value->Shared->Prop} {s:Shared} (h:wpAny M A t (AP X pins σ Q) E s) (hQ:∀ u s v H,Inv X pins σ H s->Vals v u->Q v H->Q' u s):wpAny M A t Q' E s:=thn h fun u s ⟨v,H,I,r,q⟩=>hQ u s v H I r q
theorem Dd {t:Sem Bool} {X:Cx} {pins:List (Addr × Obj)} {σ:St} {Q:Bool->Hp->Prop} {Q':Bool->Shared->Prop} {M:Model} {A:Around} {E:Value->Shared->Prop} {s:Shared} (h:wpAny M A t (TP X pins σ Q) E s) (hQ:∀ u s H,Inv X pins σ H s->Q u H->Q' u s):wpAny M A t Q' E s:=thn h fun u s ⟨H,I,q⟩=>hQ u s H I q
end L2
namespace L2
open PySem PySem.Spec PyProof.Rows
section
variable {X:Cx}
def AY (i:Nat):TE:=fun σ H Q=>∃ v,σ[i]?=some (some v)/\Q v H
def tC (v:V):TE:=fun _ H Q=>Q v H
theorem GR {i:Nat} {x:Str} {pos:Pos} (hN:X.N[i]?=some x) (hv:Vis X.env.scope x) (hd:(x == ("__debug__":Str))=false:=by decide) (hcd:(x == ("__classdict__":Str))=false:=by decide):PE X (.Name x pos) (AY i):=by
 intro pins s σ H Q I h;obtain ⟨v,e,h⟩:=h;obtain ⟨m,hn,hl⟩:=I.loc;obtain ⟨u,r,l⟩:=hl i x v hN e hv;have fin:EP X pins σ Q u s:=⟨v,H,I,r,h⟩;rcases l with ⟨hk,hm⟩|⟨hk,c,hc,hcell⟩
 . exact wpAny_Name (wpAny_loadName_local I.ok.kind hk hn hm fin) hd
 . rcases hk with hk|hk
   . exact wpAny_Name (wpAny_loadName_cell I.ok.kind hk hc hcell fin) hd
   . exact wpAny_Name (wpAny_loadName_free I.ok.kind hk hc hcell fin hcd) hd
theorem am {i j pos}:PE X (.Constant (.int i) j pos) (tC (.int i)):=fun _ _ _ H _ I h=>wpAny_Constant_int ⟨.int i,H,I.tok _,⟨_,rfl⟩,h⟩
theorem BM {b j pos}:PE X (.Constant (.bool b) j pos) (tC (.bl b)):=fun _ _ _ H _ I h=>Constant_bool ⟨.bl b,H,I,rfl,h⟩
theorem BT {j pos}:PE X (.Constant .none j pos) (tC .non):=fun _ _ _ H _ I h=>Constant_none ⟨.non,H,I,rfl,h⟩
theorem GW {x j pos}:PE X (.Constant (.str x) j pos) (tC (.str x)):=fun _ _ _ H _ I h=>Calls.Constant_str ⟨.str x,H,I.tok _,⟨_,rfl⟩,h⟩
def Gl (X:Cx) (x:Str):Prop:=X.env.kindOf x=some .globalImplicit
theorem y6 {E:Value->Shared->Prop} {pins:List (Addr × Obj)} {s:Shared} {σ:St} {H:Hp} {x:Str} {u:Value} {pos:Pos} {Q:Value->Shared->Prop} (I:Inv X pins σ H s) (hg:Gl X x) (hm:X.mg x=some u) (h:Q u s)
   (hd:(x == ("__debug__":Str))=false:=by decide):wpAny (model X.prog X.w) X.A (eval (.Name x pos) X.env) Q E s :=
 Calls.Name_function_global I.ok.kind hg (Calls.loadGlobal_global (by rw [I.ok.glob];exact I.mod.glob.keeps I.bk) hm h) hd
theorem kH {E:Value->Shared->Prop} {pins:List (Addr × Obj)} {s:Shared} {σ:St} {H:Hp} {x:Str} {u:Value} {pos:Pos} {Q:Value->Shared->Prop} (I:Inv X pins σ H s) (hg:Gl X x) (hm:X.mg x=none) (hv:bootBuiltins x=some u) (h:Q u s)
   (hn:x≠"__name__":=by decide) (hd:(x == ("__debug__":Str))=false:=by decide):wpAny (model X.prog X.w) X.A (eval (.Name x pos) X.env) Q E s:=by
 obtain ⟨mb,h1,h2⟩:=I.mod.blt;exact Calls.Name_function_global I.ok.kind hg (Calls.loadGlobal_builtin (by rw [I.ok.glob];exact I.mod.glob.keeps I.bk) hm (by rw [I.ok.blt];exact h1.keeps I.bk) ((h2 x hn).trans hv) h) hd
theorem S0 {x:Str} {v:V} {u:Value} {pos:Pos} (hg:Gl X x) (hm:X.mg x=some u) (r:RelV v u) (hd:(x == ("__debug__":Str))=false:=by decide):PE X (.Name x pos) (tC v) :=
 fun _ _ _ H _ I h=>y6 I hg hm ⟨v,H,I,r,h⟩ hd
theorem J5 {x:Str} {v:V} {u:Value} {pos:Pos} (hg:Gl X x) (hm:X.mg x=none) (hv:bootBuiltins x=some u) (r:RelV v u) (hn:x≠"__name__":=by decide) (hd:(x == ("__debug__":Str))=false:=by decide):PE X (.Name x pos) (tC v) :=
 fun _ _ _ H _ I h=>kH I hg hm hv ⟨v,H,I,r,h⟩ hn hd
variable {a b:Expr} {ta tb:TE} {pos:Pos}
def PC (X:Cx) (op:CmpOp) (a b:Expr) (t:TE):Prop :=
 ∀ (pins:List (Addr × Obj)) (s:Shared) (σ:St) (H:Hp) (Q:VK),Inv X pins σ H s->t σ H Q ->
   wpAny (model X.prog X.w) X.A (eval a X.env) (fun v s₁=>wpAny (model X.prog X.w) X.A (eval b X.env) (fun u s₂=>wpAny (model X.prog X.w) X.A (compareOp op v u) (EP X pins σ Q) X.xe s₂) X.xe s₁) X.xe s
theorem Rc (b:Expr) {op:CmpOp} (h:op≠.In) (h2:op≠.NotIn):behindInMarks op b=false:=by
 have e1:(op == CmpOp.In)=false:=by cases op <;> first|rfl|exact absurd rfl h
 have e2:(op == CmpOp.NotIn)=false:=by cases op <;> first|rfl|exact absurd rfl h2
 cases b <;> simp [behindInMarks,e1,e2]
def Tp (ta:TE):TE:=fun σ H Q=>ta σ H fun x H1=>Q (.bl (decide (x=.non))) H1
def K1 (ta:TE):TE:=fun σ H Q=>ta σ H fun x H1=>Q (.bl (!decide (x=.non))) H1
theorem RelV.none_iff {x:V} {v:Value} (r:RelV x v):(v == Value.none)=decide (x=.non):=by
 cases x with
 | non=>cases r;rfl
 | bl _=>cases r;rfl
 | int _=>obtain ⟨t,rfl⟩:=r;rfl
 | str _=>obtain ⟨t,rfl⟩:=r;rfl
 | byt _=>obtain ⟨t,rfl⟩:=r;rfl
 | flt _=>obtain ⟨t,rfl⟩:=r;rfl
 | ref _=>cases r;rfl
 | ty _=>cases r;rfl
theorem SN {j pos'} (ha:PE X a ta):PC X .IsNot a (.Constant .none j pos') (K1 ta):=by
 intro pins s σ H Q I h;refine bx (ha pins s σ H _ I h) fun v s1 x H1 I1 r1 q1=>?_;exact Constant_none (isnot_none_gen ⟨.bl _,H1,I1,by rw [r1.none_iff];rfl,q1⟩)
def tB (t:TE):TT:=fun σ H Q=>t σ H fun x H1=>∃ c,x=.bl c/\Q c H1
theorem Bh {op:CmpOp} {t:TE} (h:PC X op a b t) (h1:behindInMarks op b=false:=by first|exact Rc _ (by decide) (by decide)|rfl):PT X (.Compare a [op] [b] pos) (tB t):=by
 intro pins s σ H Q I hw;refine wpAny_isTrue_Compare1 (thn (h pins s σ H _ I hw) fun v s1 h1=>thn h1 fun u s2 h2=>thn h2 fun c s3 ⟨x,H1,I1,r1,q1⟩=>?_) h1;obtain ⟨d,rfl,q⟩:=q1;cases r1;exact wpAny_truthy_bool ⟨H1,I1,q⟩
theorem ul {e:Expr} {t:TE} (h:PE X e t) (he:∀ whole,isTrue e X.env whole=(do let v <- whole;standAt e.pos;holding [v] (truthy v)):=by intro _;rfl):PT X e (tB t):=by
 intro pins s σ H Q I hw;refine isTrue_plain (bx (h pins s σ H _ I hw) fun v s1 x H1 I1 r1 q1=>?_) (he _);obtain ⟨d,rfl,q⟩:=q1;cases r1;exact wpAny_truthy_bool ⟨H1,I1,q⟩
variable {tA tB':TT} {rest:List Expr}
def QX (t u:TT):TT:=fun σ H Q=>t σ H fun c H1=>if c=true then u σ H1 Q else Q false H1
def tOr (t u:TT):TT:=fun σ H Q=>t σ H fun c H1=>if c=true then Q true H1 else u σ H1 Q
def Qt (t:TT):TT:=fun σ H Q=>t σ H fun c H1=>Q (!c) H1
theorem y3 (ha:PT X a tA):PW X (.BoolOp .And [a] pos) tA:=by
 intro wh pins s σ H Q I h;refine isTrue_and (thn (ha pins s σ H Q I h) fun c s1 e=>?_);cases c with
 | true=>exact isTrue_and_nil e
 | false=>exact e
theorem MI (ha:PT X a tA):PW X (.BoolOp .Or [a] pos) tA:=by
 intro wh pins s σ H Q I h;refine isTrue_or (thn (ha pins s σ H Q I h) fun c s1 e=>?_);cases c with
 | false=>exact isTrue_or_nil e
 | true=>exact e
theorem Cu (ha:PT X a tA) (hb:PW X (.BoolOp .And (b::rest) pos) tB'):PW X (.BoolOp .And (a::b::rest) pos) (QX tA tB'):=by
 intro wh pins s σ H Q I h;refine isTrue_and (Dd (ha pins s σ H _ I h) fun c s1 H1 I1 q1=>?_);cases c with
 | true=>exact hb wh pins s1 σ H1 Q I1 q1
 | false=>exact ⟨H1,I1,q1⟩
theorem Mo (ha:PT X a tA) (hb:PW X (.BoolOp .Or (b::rest) pos) tB'):PW X (.BoolOp .Or (a::b::rest) pos) (tOr tA tB'):=by
 intro wh pins s σ H Q I h;refine isTrue_or (Dd (ha pins s σ H _ I h) fun c s1 H1 I1 q1=>?_);cases c with
 | true=>exact ⟨H1,I1,q1⟩
 | false=>exact hb wh pins s1 σ H1 Q I1 q1
theorem ub (ha:PT X a tA):PT X (.UnaryOp .Not a pos) (Qt tA):=by
 intro pins s σ H Q I h;exact isTrue_not (ha pins s σ H (fun c H1=>Q (!c) H1) I h)
def Lo (ta tb:TE):TE:=fun σ H Q=>ta σ H fun x H1=>∃ c,x=.bl c/\if c=true then tb σ H1 Q else Q (.bl false) H1
def S7 (ta tb:TE):TE:=fun σ H Q=>ta σ H fun x H1=>∃ c,x=.bl c/\if c=true then Q (.bl true) H1 else tb σ H1 Q
def Lr (ta:TE):TE:=fun σ H Q=>ta σ H fun x H1=>∃ c,x=.bl c/\Q (.bl (!c)) H1
theorem Gy {op} {t:TE} (h:PE X a t):PE X (.BoolOp op [a] pos) t:=fun pins s σ H Q I hw=>BoolOp_one (h pins s σ H Q I hw)
theorem F7 (ha:PE X a ta) (hb:PE X (.BoolOp .And (b::rest) pos) tb):PE X (.BoolOp .And (a::b::rest) pos) (Lo ta tb):=by
 intro pins s σ H Q I h;refine BoolOp_and (bx (ha pins s σ H _ I h) fun v s1 x H1 I1 r1 q1=>?_);obtain ⟨c,rfl,q1⟩:=q1;cases r1;refine wpAny_truthy_bool ?_;cases c with
 | true=>exact hb pins s1 σ H1 Q I1 q1
 | false=>exact ⟨.bl false,H1,I1,rfl,q1⟩
theorem NJ (ha:PE X a ta):PE X (.UnaryOp .Not a pos) (Lr ta):=by
 intro pins s σ H Q I h;refine UnaryOp_ (bx (ha pins s σ H _ I h) fun v s1 x H1 I1 r1 q1=>?_);obtain ⟨c,rfl,q1⟩:=q1;cases r1;exact not_of (wpAny_truthy_bool ⟨.bl (!c),H1,I1,rfl,q1⟩)
def tIf (t:TT) (ta tb:TE):TE:=fun σ H Q=>t σ H fun c H1=>if c=true then ta σ H1 Q else tb σ H1 Q
end
end L2
namespace L2
open PySem PySem.Spec PyProof.Rows
def SqL (K:PySem.W.Frag) (H:Hp) (a:Addr) (xs:List V):Prop :=
 Rd H a (.lst xs) \/
   ∃ (o:Obj) (its:Array Value) (n:Nat),K.lookup a=some o/\o.cls=.type "list"/\o.dict=none/\o.data=.seq its n/\its.size<=sizeLine/\Vals xs its.toList
def SqT (K:PySem.W.Frag) (H:Hp) (a:Addr) (xs:List V):Prop :=
 Rd H a (.tup xs) \/
   ∃ (o:Obj) (its:Array Value) (n:Nat),K.lookup a=some o/\o.cls=.type "tuple"/\o.data=.seq its n/\its.size<=sizeLine/\Vals xs its.toList
def U1:Value->Option V
 | .none=>some .non
 | .bool b=>some (.bl b)
 | .int i _=>some (.int i)
 | .str x _=>some (.str x)
 | .bytes b _=>some (.byt b)
 | .float b _=>some (.flt b)
 | .ref a=>some (.ref a)
 | .type n=>some (.ty n)
 | _=>none
theorem RelV.abs {x:V} {u:Value} (r:RelV x u):U1 u=some x:=by
 cases x with
 | non=>cases r;rfl
 | bl _=>cases r;rfl
 | int _=>obtain ⟨t,rfl⟩:=r;rfl
 | str _=>obtain ⟨t,rfl⟩:=r;rfl
 | byt _=>obtain ⟨t,rfl⟩:=r;rfl
 | flt _=>obtain ⟨t,rfl⟩:=r;rfl
 | ref _=>cases r;rfl
 | ty _=>cases r;rfl
theorem RelV.inj {x y:V} {u:Value} (r:RelV x u) (q:RelV y u):x=y:=Option.some.inj (r.abs.symm.trans q.abs)
theorem Vals.inj {xs ys:List V} {us:List Value} (h:Vals xs us) (h2:Vals ys us):xs=ys:=by
 induction h generalizing ys with
 | nil=>cases h2;rfl
 | cons r _ ih=>cases h2 with|cons r2 t2=>rw [r.inj r2,ih t2]
section
variable {X:Cx} {pins:List (Addr × Obj)} {σ:St} {H:Hp} {s:Shared} {a:Addr} {xs ys:List V}
theorem SqL.of {K:PySem.W.Frag} (h:H a=some (.lst xs)):SqL K H a xs:=.inl (.inl h)
theorem SqT.of {K:PySem.W.Frag} (h:H a=some (.tup xs)):SqT K H a xs:=.inl (.inl h)
theorem Inv.list (I:Inv X pins σ H s) (h:SqL X.K H a xs):∃ its:List Value,Vals xs its/\PlainL s.heap a its.toArray/\xs.length<=sizeLine:=by
 rcases h with h|⟨o,its,n,hk,hc,hd,hs,hz,r⟩
 . obtain ⟨z,its,n,r,e⟩:=h.ok I.hok;exact ⟨its,r,⟨_,n,e,rfl,rfl,rfl⟩,z⟩
 . refine ⟨its.toList,r,⟨o,n,I.kIn a o hk,hc,hd,by simpa using hs⟩,?_⟩;have e:=r.length;simp only [Array.length_toList] at e;omega
theorem Inv.tuple (I:Inv X pins σ H s) (h:SqT X.K H a xs):∃ its:List Value,Vals xs its/\IsTup s.heap a its.toArray/\xs.length<=sizeLine:=by
 rcases h with h|⟨o,its,n,hk,hc,hs,hz,r⟩
 . obtain ⟨z,its,r,p⟩:=h.ok I.hok;exact ⟨its,r,p,z⟩
 . refine ⟨its.toList,r,⟨o,I.kIn a o hk,hc,n,by simpa using hs⟩,?_⟩;have e:=r.length;simp only [Array.length_toList] at e;omega
theorem Inv.list_inj (I:Inv X pins σ H s) (h:SqL X.K H a xs) (h':SqL X.K H a ys):xs=ys:=by
 obtain ⟨its,r,⟨o,n,e,_,_,d⟩,_⟩:=I.list h;obtain ⟨its',r',⟨o',n',e',_,_,d'⟩,_⟩:=I.list h';rw [e] at e';cases e';rw [d] at d';injection d' with d1 _
 have:its=its':=by simpa using congrArg Array.toList d1
 subst this;exact r.inj r'
theorem Inv.tuple_inj (I:Inv X pins σ H s) (h:SqT X.K H a xs) (h':SqT X.K H a ys):xs=ys:=by
 obtain ⟨its,r,⟨o,e,_,n,d⟩,_⟩:=I.tuple h;obtain ⟨its',r',⟨o',e',_,n',d'⟩,_⟩:=I.tuple h';rw [e] at e';cases e';rw [d] at d';injection d' with d1 _
 have:its=its':=by simpa using congrArg Array.toList d1
 subst this;exact r.inj r'
end
abbrev Cx.wish (X:Cx) (E:Value->Shared->Prop):Cx:={ X with xe:=E }
abbrev Cx.nox (X:Cx):Cx:=X.wish fun _ _=>False
theorem Cx.Ok.wish {X:Cx} (ok:X.Ok) (E:Value->Shared->Prop):(X.wish E).Ok :=
 ⟨ok.mod,ok.kind,ok.glob,ok.blt,ok.above,ok.inj,ok.has,ok.cab,ok.hd,ok.frames,ok.stk,ok.exf,ok.bs,ok.bsz,ok.noex,ok.exfs,ok.funs,ok.frf⟩
theorem Cx.Ok.unwish {X:Cx} {E:Value->Shared->Prop} (ok:(X.wish E).Ok):X.Ok :=
 ⟨ok.mod,ok.kind,ok.glob,ok.blt,ok.above,ok.inj,ok.has,ok.cab,ok.hd,ok.frames,ok.stk,ok.exf,ok.bs,ok.bsz,ok.noex,ok.exfs,ok.funs,ok.frf⟩
section
variable {X:Cx} {pins:List (Addr × Obj)} {σ:St} {H:Hp} {s:Shared} {E:Value->Shared->Prop}
theorem Inv.wish (I:Inv X pins σ H s) (E:Value->Shared->Prop):Inv (X.wish E) pins σ H s:=⟨I.ok.wish E,I.os,I.bare,I.base,I.loc,I.cell,I.free,I.freeC,I.pin,I.hok,I.len⟩
theorem Inv.unwish (I:Inv (X.wish E) pins σ H s):Inv X pins σ H s:=⟨I.ok.unwish,I.os,I.bare,I.base,I.loc,I.cell,I.free,I.freeC,I.pin,I.hok,I.len⟩
theorem SP.unwish {D:Ends} {f:Flow} {s':Shared} (h:SP (X.wish E) pins D f s'):SP X pins D f s':=by
 cases f with
 | next=>obtain ⟨σ',H',I,q⟩:=h;exact ⟨σ',H',I.unwish,q⟩
 | brk=>obtain ⟨σ',H',I,q⟩:=h;exact ⟨σ',H',I.unwish,q⟩
 | cont=>obtain ⟨σ',H',I,q⟩:=h;exact ⟨σ',H',I.unwish,q⟩
 | ret u=>obtain ⟨v,σ',H',I,r,q⟩:=h;exact ⟨v,σ',H',I.unwish,r,q⟩
theorem PSs.nox {st:List Stmt} {t:TS} (h:PSs X.nox st t):PSs X st t:=fun pins s σ H D I hw =>
 wpAny_mono (h pins s σ H D (I.wish _) hw) (fun _ _ q=>q.unwish) fun _ _ z=>False.elim z
end
section
variable {X:Cx} {st:Stmt} {rest:List Stmt} {t u:TS} {e:Expr} {te:TE} {pos:Pos}
def tNext:TS:=fun D σ H=>D.nx σ H
def MB (t u:TS):TS:=fun D σ H=>t { D with nx:=u D } σ H
theorem bp:PSs X [] tNext:=fun _ _ σ H _ I h=>wpAny_execs_nil ⟨σ,H,I,h⟩
theorem aj (h1:PS X st t) (h2:PSs X rest u):PSs X (st::rest) (MB t u):=by
 intro pins s σ H D I h;refine wpAny_execs_cons (thn (h1 pins s σ H { D with nx:=u D } I h) fun f s1 q=>?_);cases f with
 | next =>
   obtain ⟨σ',H',I',q⟩:=q;exact h2 pins s1 σ' H' D I' q
 | ret v=>exact q
 | brk=>exact q
 | cont=>exact q
theorem ap (h1:PS X st t):PSs X [st] t:=by
 intro pins s σ H D I h;refine wpAny_execs_cons (thn (h1 pins s σ H D I h) fun f s1 q=>?_);cases f with
 | next=>exact wpAny_execs_nil q
 | ret v=>exact q
 | brk=>exact q
 | cont=>exact q
theorem Inv.quiet {pins:List (Addr × Obj)} {σ:St} {H:Hp} {s:Shared} (I:Inv X pins σ H s):interactive X.env=false:=by simp [interactive,I.ok.kind]
def MC (te:TE):TS:=fun D σ H=>te σ H fun _ H1=>D.nx σ H1
theorem bw (he:PE X e te) (hs:swapsWith e none pos.line X.env=pure false:=by rfl):PS X (.Expr e pos) (MC te):=by
 intro pins s σ H D I h;exact wpAny_Expr_any (bx (he pins s σ H _ I h) fun v s1 x H1 I1 r1 q1=>⟨σ,H1,I1,q1⟩) I.quiet hs
def QN (te:TE):TS:=fun D σ H=>te σ H D.rt
theorem aO (he:PE X e te):PS X (.Return (some e) pos) (QN te):=by
 intro pins s σ H D I h;exact wpAny_Return_some (bx (he pins s σ H _ I h) fun v s1 x H1 I1 r1 q1=>⟨x,σ,H1,I1,r1,q1⟩)
def RE:TS:=fun D _ H=>D.rt .non H
def Gw (c:TT) (t u:TS):TS:=fun D σ H=>c σ H fun b H1=>if b=true then t D σ H1 else u D σ H1
theorem bT {c:Expr} {a b:List Stmt} {tc:TT} (hc:PT X c tc) (ha:PSs X a t) (hb:PSs X b u):PS X (.If c a b pos) (Gw tc t u):=by
 intro pins s σ H D I h;refine wpAny_If (Dd (hc pins s σ H _ I h) fun d s1 H1 I1 q1=>?_);cases d with
 | true=>exact ha pins s1 σ H1 D I1 q1
 | false=>exact hb pins s1 σ H1 D I1 q1
def tNever:TS:=fun _ _ _=>False
theorem on:PS X st tNever:=fun _ _ _ _ _ _ h=>h.elim
end
abbrev TG:=V->St->Hp->(St->Hp->Prop)->Prop
abbrev TGs:=List V->St->Hp->(St->Hp->Prop)->Prop
def PG (X:Cx) (target:Expr) (t:TG):Prop :=
 ∀ (pins:List (Addr × Obj)) (s:Shared) (σ:St) (H:Hp) (v:V) (u:Value) (Q:St->Hp->Prop),Inv X pins σ H s->RelV v u->t v σ H Q ->
   wpAny (model X.prog X.w) X.A (assign target X.env u) (fun _ s'=>∃ σ' H',Inv X pins σ' H' s'/\Q σ' H') X.xe s
def PGs (X:Cx) (ts:List Expr) (t:TGs):Prop :=
 ∀ (pins:List (Addr × Obj)) (s:Shared) (σ:St) (H:Hp) (vs:List V) (us:List Value) (Q:St->Hp->Prop),Inv X pins σ H s->Vals vs us->t vs σ H Q ->
   wpAny (model X.prog X.w) X.A (assignInOrder ((assignEach ts X.env).map (·.2)) us) (fun _ s'=>∃ σ' H',Inv X pins σ' H' s'/\Q σ' H') X.xe s
abbrev LK:=V->V->V->Hp->(Hp->Prop)->Prop
def Uv (X:Cx) (t:LK):Prop :=
 ∀ (pins:List (Addr × Obj)) (s:Shared) (σ:St) (H:Hp) (o i v:V) (ov iv u:Value) (Q:Hp->Prop),Inv X pins σ H s->RelV o ov->RelV i iv->RelV v u->t o i v H Q ->
   wpAny (model X.prog X.w) X.A (setItem ov iv u) (fun _ s'=>∃ H',Inv X pins σ H' s'/\Q H') X.xe s
abbrev TIp:=V->V->Hp->VK->Prop
def PIp (X:Cx) (op:Operator) (t:TIp):Prop :=
 ∀ (pins:List (Addr × Obj)) (s:Shared) (σ:St) (H:Hp) (x y:V) (v u:Value) (Q:VK),Inv X pins σ H s->RelV x v->RelV y u->t x y H Q ->
   wpAny (model X.prog X.w) X.A (inplaceOp op v u) (EP X pins σ Q) X.xe s
section
variable {X:Cx} {pos:Pos}
def rO (i:Nat):TG:=fun v σ H Q=>Q (σ.set i (some v)) H
theorem ax {i:Nat} {x:Str} (hN:X.N.Nodup) (hi:X.N[i]?=some x) (hx:Loc X.env.scope x) (hf:X.fn x=true\/X.env.scope.names.lookup x=some .local:=by first|exact .inl rfl|exact .inr rfl|assumption):PG X (.Name x pos) (rO i):=by
 intro pins s σ H v u Q I r h;exact wpAny_assign_Name (AG I hN hi hx r (fun s' I'=>⟨_,H,I',h⟩) hf)
def gNil:TGs:=fun vs σ H Q=>vs=[]/\Q σ H
def Bx (t:TG) (u:TGs):TGs:=fun vs σ H Q=>∃ v r,vs=v::r/\t v σ H fun σ' H'=>u r σ' H' Q
theorem eX:PGs X [] gNil:=by
 intro pins s σ H vs us Q I r h;obtain ⟨e,h⟩:=h;subst e;cases r;exact assignInOrder_nil ⟨σ,H,I,h⟩
theorem aF {e:Expr} {es:List Expr} {t:TG} {u:TGs} (h1:PG X e t) (h2:PGs X es u)
   (hs:(assignEach (e::es) X.env).map (·.2)=assign e X.env::(assignEach es X.env).map (·.2):=by rfl):PGs X (e::es) (Bx t u):=by
 intro pins s σ H vs us Q I r h;obtain ⟨v,vr,e1,h⟩:=h;subst e1;cases r with
 | cons r rr =>
   rw [hs];refine assignInOrder_cons (thn (h1 pins s σ H _ _ _ I r h) fun _ s1 ⟨σ1,H1,I1,q1⟩=>?_);exact h2 pins s1 σ1 H1 _ _ Q I1 rr q1
def G5 (K:PySem.W.Frag) (n:Nat) (t:TGs):TG:=fun v σ H Q=>∃ a xs,v=.ref a/\SqT K H a xs/\xs.length=n/\t xs σ H Q
theorem hV {es:List Expr} {k:Nat} {t:TGs} {n:Nat} (hc:X.calm=true) (h:PGs X es t)
   (hn:(assignEach es X.env).length=n:=by rfl) (hst:(assignEach es X.env).findIdx? (·.1)=none:=by rfl):PG X (.Tuple es k pos) (G5 X.K n t):=by
 intro pins s σ H v u Q I r hw;obtain ⟨a,xs,e1,hq,hl,hw⟩:=hw;subst e1;cases r;obtain ⟨its,rv,ht,hz⟩:=I.tuple hq;refine assign_Tuple_tuple (I.ok.hd hc) ht (by simp [hn,<- hl,rv.length]) hst fun h' hx=>?_;have I1:Inv X pins σ H { s with heap:=h' }:=I.kept (t':=s.toks) fun b o e=>hx b o (Nat.ne_of_lt (Heap.lt_size e)) e;exact h pins _ σ H xs _ Q I1 (by simpa using rv) hw
def Rt (to ti:TE) (t:LK):TG:=fun v σ H Q=>to σ H fun o H1=>ti σ H1 fun i H2=>t o i v H2 fun H3=>Q σ H3
theorem rJ {o i:Expr} {to ti:TE} {t:LK} (ho:PE X o to) (hi:PE X i ti) (hs:Uv X t)
   (ha:∀ v,assign (.Subscript o i pos) X.env v=(do
     let ov <- holding [v] (eval o X.env)
     let iv <- holding [v,ov] (eval i X.env)
     standAt pos
     holding [v,ov,iv] (setItem ov iv v)
     release [v,ov,iv] []):=by intro _;rfl):PG X (.Subscript o i pos) (Rt to ti t):=by
 intro pins s σ H v u Q I r h;rw [ha];refine wpAny_bind (wpAny_holding (bx (ho pins s σ H _ I h) fun ov s1 x H1 I1 r1 q1=>?_));refine wpAny_bind (wpAny_holding (bx (hi pins s1 σ H1 _ I1 q1) fun iv s2 y H2 I2 r2 q2=>?_));refine wpAny_bind (wpAny_standAt (wpAny_bind (wpAny_holding (thn (hs pins s2 σ H2 x y v ov iv u _ I2 r1 r2 r q2) fun _ s3 ⟨H3,I3,q3⟩=>?_))));exact wpAny_release ⟨σ,H3,I3,q3⟩
def Hq (te:TE) (g:TG):TS:=fun D σ H=>te σ H fun x H1=>g x σ H1 D.nx
theorem lf {tg e:Expr} {te:TE} {g:TG} (he:PE X e te) (hg:PG X tg g) (hs:swapsWithSole [tg] e pos.line X.env=pure false:=by rfl) (hw:swappedStores [tg] e X.env=pure none:=by rfl)
   (h1:(assignEach [tg] X.env).map (·.2)=[assign tg X.env]:=by rfl):PS X (.Assign [tg] e pos) (Hq te g):=by
 intro pins s σ H D I h;refine wpAny_Assign_stores (bx (he pins s σ H _ I h) fun v s1 x H1 I1 r1 q1=>?_) hs hw;rw [h1];exact thn (hg pins s1 σ H1 x v _ I1 r1 q1) fun _ s2 q=>q
theorem aw {i:Nat} {x:Str} {e:Expr} {te:TE} {pos':Pos} (hN:X.N.Nodup) (hi:X.N[i]?=some x) (hx:Loc X.env.scope x) (he:PE X e te) (hs:swapsWith e (some (.Name x pos')) pos.line X.env=pure false:=by rfl) (hf:X.fn x=true\/X.env.scope.names.lookup x=some .local:=by first|exact .inl rfl|exact .inr rfl|assumption) :
   PS X (.Assign [.Name x pos'] e pos) (Hq te (rO i)):=by
 intro pins s σ H D I h;refine wpAny_Assign_Name (bx (he pins s σ H _ I h) fun v s1 y H1 I1 r1 q1=>?_) hs;exact AG I1 hN hi hx r1 (fun s2 I2=>⟨_,H1,I2,q1⟩) hf
def OC (i:Nat) (te:TE) (ti:TIp):TS:=fun D σ H=>∃ x,σ[i]?=some (some x)/\te σ H fun y H1=>ti x y H1 fun z H2=>D.nx (σ.set i (some z)) H2
theorem Uj {i:Nat} {x:Str} {e:Expr} {te:TE} {op:Operator} {ti:TIp} {pos':Pos} (hN:X.N.Nodup) (hi:X.N[i]?=some x) (hx:Loc X.env.scope x) (he:PE X e te) (ho:PIp X op ti) (hf:X.fn x=true\/X.env.scope.names.lookup x=some .local:=by first|exact .inl rfl|exact .inr rfl|assumption) :
   PS X (.AugAssign (.Name x pos') op e pos) (OC i te ti):=by
 intro pins s σ H D I h;obtain ⟨v,e1,h⟩:=h;obtain ⟨m,hn,hl⟩:=I.loc;have vis:Vis X.env.scope x:=by rcases hx with k|k;exact .inl k;exact .inr (.inl k)
 obtain ⟨u,r,l⟩:=hl i x v hi e1 vis;refine wpAny_AugAssign_Name ?_;have go:wpAny (model X.prog X.w) X.A (eval e X.env) (fun w s₂=>wpAny (model X.prog X.w) X.A (inplaceOp op u w) (fun r s₃=>wpAny (model X.prog X.w) X.A (storeName X.env x r) (fun _=>SP X pins D .next) X.xe s₃) X.xe s₂) X.xe s:=by
   refine thn (he pins s σ H _ I h) fun w s1 ⟨y,H1,I1,r1,q1⟩=>?_;refine thn (ho pins s1 σ H1 v y u w _ I1 r r1 q1) fun z s2 ⟨zv,H2,I2,r2,q2⟩=>?_;exact AG I2 hN hi hx r2 (fun s3 I3=>⟨_,H2,I3,q2⟩) hf
 rcases l with ⟨hk,hm⟩|⟨hk,c,hc,hcell⟩
 . exact wpAny_loadName_local I.ok.kind hk hn hm go
 . rcases hk with hk|hk
   . exact wpAny_loadName_cell I.ok.kind hk hc hcell go
   . rcases hx with k|k
     . have:X.env.scope.names.lookup x=some .free:=hk;rw [k] at this;cases this
     . have:X.env.scope.names.lookup x=some .free:=hk;rw [k] at this;cases this
def RQ (to ti te:TE) (tget:V->V->Hp->VK->Prop) (tip:TIp) (tset:LK):TS:=fun D σ H=>to σ H fun o H1=>ti σ H1 fun i H2=>tget o i H2 fun x H3=>te σ H3 fun y H4=>tip x y H4 fun z H5=>tset o i z H5 fun H6=>D.nx σ H6
def ipI (f:Int->Int->Int):TIp:=fun x y H Q=>∃ i j,x=.int i/\y=.int j/\Q (.int (f i j)) H
theorem Ud:PIp X .Add (ipI fun i j=>i+j):=by
 intro pins s σ H x y v u Q I r1 r2 h;obtain ⟨i,j,e1,e2,q⟩:=h;subst e1;subst e2;obtain ⟨t,rfl⟩:=r1;obtain ⟨t',rfl⟩:=r2;exact iadd_int ⟨.int _,H,I.tok _,⟨_,rfl⟩,q⟩
end
section
variable {X:Cx} {pos:Pos}
def GS (c:TT) (tb:TS):TS:=fun D σ H=>∃ W:Nat->St->Hp->Prop,(∃ m,W m σ H)/\∀ m σ H,W m σ H ->
 c σ H fun b H1=>if b=true then ∃ N:St->Hp->Prop,(∀ σ' H',N σ' H'->∃ m',m'<m/\W m' σ' H')/\tb { D with nx:=N,ct:=N,bk:=D.nx } σ H1 else D.nx σ H1
theorem nN {c:Expr} {body:List Stmt} {tc:TT} {tb:TS} (hp:PassesOwn (model X.prog X.w) X.A X.env X.xe) (hc:PT X c tc) (hb:PSs X body tb):PS X (.While c body [] pos) (GS tc tb):=by
 intro pins s σ H D I h;obtain ⟨W,⟨m0,w0⟩,turn⟩:=h;refine wpAny_While (codeAny_whileLoop (fun n s'=>∃ σ' H',Inv X pins σ' H' s'/\W n σ' H') ?_ m0 ⟨σ,H,I,w0⟩);rintro n s1 ⟨σ1,H1,I1,w1⟩;refine wpAny_passesOwn hp (Dd (hc pins s1 σ1 H1 _ I1 (turn n σ1 H1 w1)) fun b s2 H2 I2 q2=>?_);cases b with
 | true =>
   obtain ⟨N,hN,q2⟩:=q2;rw [if_pos rfl];refine wpAny_passesOwn hp (thn (hb pins s2 σ1 H2 _ I2 q2) fun f s3 q3=>?_);cases f with
   | next =>
     obtain ⟨σ3,H3,I3,n3⟩:=q3;obtain ⟨m',hm,w3⟩:=hN σ3 H3 n3;exact ⟨m',hm,σ3,H3,I3,w3⟩
   | cont =>
     obtain ⟨σ3,H3,I3,n3⟩:=q3;obtain ⟨m',hm,w3⟩:=hN σ3 H3 n3;exact ⟨m',hm,σ3,H3,I3,w3⟩
   | brk=>exact q3
   | ret v=>exact q3
 | false =>
   rw [if_neg Bool.false_ne_true];exact wpAny_execs_nil ⟨σ1,H2,I2,q2⟩
end
structure It where
 go:Nat->Hp->Prop
 yld:Nat->Hp->V->Hp->Prop
 stop:Nat->Hp->Prop
def ly (X:Cx) (pins:List (Addr × Obj)) (H:Hp) (b:Addr):Prop :=
 H b=none/\b≠X.env.locals/\b ∉ X.fs/\(b∈X.ex\/X.s₀.heap.objs.size<=b)/\(∀ x c,X.env.cells.lookup x=some c->c≠b)/\∀ p∈X.pn++pins,p.1≠b
theorem Inv.fpOk {X:Cx} {pins:List (Addr × Obj)} {σ:St} {H H':Hp} {s:Shared} {b:Addr} (I:Inv X pins σ H s) (hb:s.heap.objs.size<=b) (hn:H' b=none):ly X pins H' b:=by
 refine ⟨hn,Nat.ne_of_gt (Nat.lt_of_lt_of_le I.lt hb),I.nofs hb,.inr (Nat.le_trans I.sz hb),fun x c e z=>?_,fun p hp z=>?_⟩
 . obtain ⟨v,q⟩:=I.cell x c e;exact absurd (Nat.lt_of_lt_of_le q.lt (by rw [z];exact hb)) (Nat.lt_irrefl _)
 . exact absurd (Nat.lt_of_lt_of_le (Heap.lt_size (I.pin p hp).1) (by rw [z];exact hb)) (Nat.lt_irrefl _)
structure Turn (P:Program) (w:World) (K:PySem.W.Frag) (tg:Expr) (J:It) (fp:List Addr) (it:Addr) (tn:Nat->Heap->Prop):Prop where
 mem:it∈fp
 obj:∀ i h,tn i h->∀ b∈fp,∃ o,h.get? b=some o/\∀ v,o.data≠.cell v
 keep:∀ i h h',tn i h->(∀ b∈fp,∀ o,h.get? b=some o->h'.get? b=some o)->tn i h'
 item:∀ (X:Cx),X.prog=P->X.w=w->X.K=K->X.calm=true->∀ (i:Nat) (pins:List (Addr × Obj)) (s:Shared) (σ:St) (H:Hp) (E:Value->Shared->Prop),Inv X pins σ H s->(∀ b∈fp,ly X pins H b)->tn i s.heap->J.go i H ->
   wpAny (model P w) X.A (pyNext (.ref it)) (fun r s1=>∃ u,r=some u /\
     wpAny (model P w) X.A (letOwnedTupleGo tg (.ref it) u) (fun _ s2=>∃ x H',Inv X pins σ H' s2/\RelV x u/\J.yld i H x H'/\tn (i+1) s2.heap/\∀ b∈fp,H' b=none) E s1) E s
 done:∀ (X:Cx),X.prog=P->X.w=w->X.K=K->X.calm=true->∀ (i:Nat) (pins:List (Addr × Obj)) (s:Shared) (σ:St) (H:Hp) (E:Value->Shared->Prop),Inv X pins σ H s->(∀ b∈fp,ly X pins H b)->tn i s.heap->J.stop i H ->
   wpAny (model P w) X.A (pyNext (.ref it)) (fun r s1=>r=none/\Inv X pins σ H s1) E s
 self:∀ (A:Around) (i:Nat) (s:Shared) (Q:Value->Shared->Prop) (E:Value->Shared->Prop),tn i s.heap->Q (.ref it) s->wpAny (model P w) A (pyIter (.ref it)) Q E s
abbrev TI:=St->Hp->(It->Hp->Prop)->Prop
def PIE (X:Cx) (pins:List (Addr × Obj)) (σ:St) (tg:Expr) (R:It->Hp->Prop) (itv:Value) (s2:Shared):Prop :=
 ∃ (it:Addr) (fp:List Addr) (tn:Nat->Heap->Prop) (J:It) (H':Hp),itv=.ref it/\Inv X pins σ H' s2/\Turn X.prog X.w X.K tg J fp it tn/\tn 0 s2.heap/\(∀ b∈fp,ly X pins H' b)/\R J H'
def PI (X:Cx) (tg iter:Expr) (wi:TI):Prop :=
 ∀ (pins:List (Addr × Obj)) (s:Shared) (σ:St) (H:Hp) (R:It->Hp->Prop),Inv X pins σ H s->wi σ H R ->
   wpAny (model X.prog X.w) X.A (eval iter X.env) (fun v s1=>wpAny (model X.prog X.w) X.A (pyIter v) (PIE X pins σ tg R) X.xe s1) X.xe s
theorem Ft {M:Model} {A:Around} {E:Value->Shared->Prop} {s:Shared} {tg:Expr} {it:Addr} {u:Value} {o:Obj} {n:String} {vs:Array Value} {Q:Unit->Shared->Prop} (ho:s.heap.get? it=some o) (hc:o.cls=.type n) (hd:o.data=.fields vs)
   (hn:["enumerate","zip","dict_itemiterator","dict_reverseitemiterator","odict_iterator","itertools.zip_longest","itertools.pairwise"].contains n=false) (hQ:Q () s):wpAny M A (letOwnedTupleGo tg (.ref it) u) Q E s:=by
 unfold letOwnedTupleGo;cases tg <;> first
   | exact wpAny_pure hQ
   | (cases u <;> first
       | exact wpAny_pure hQ
       | (refine wpAny_bind (wpAny_load ho ?_)
          rw [hc,hd];show wpAny M A (if (["enumerate","zip","dict_itemiterator","dict_reverseitemiterator","odict_iterator","itertools.zip_longest","itertools.pairwise"].contains n && vs[0]? == some (rawInt _))=true then _ else _) Q E s;rw [if_neg (by intro h;rw [hn,Bool.false_and] at h;cases h)];exact wpAny_pure hQ))
def Itl (K:PySem.W.Frag) (a:Addr):It :=
 ⟨fun i H=>∃ xs x,SqL K H a xs/\xs[i]?=some x,fun i H x H'=>H'=H/\∀ xs,SqL K H a xs->xs[i]?=some x,fun i H=>∃ xs,SqL K H a xs/\xs.length<=i⟩
def Itt (K:PySem.W.Frag) (a:Addr):It :=
 ⟨fun i H=>∃ xs x,SqT K H a xs/\xs[i]?=some x,fun i H x H'=>H'=H/\∀ xs,SqT K H a xs->xs[i]?=some x,fun i H=>∃ xs,SqT K H a xs/\xs.length<=i⟩
def Itr (lo:Int) (n:Nat):It:=⟨fun i _=>i<n,fun i H x H'=>H'=H/\x=.int (lo+i),fun i _=>n<=i⟩
theorem Nq {P:Program} {w:World} {K:PySem.W.Frag} {tg:Expr} (a it:Addr):Turn P w K tg (Itl K a) [it] it (fun i h=>h.IsListIter it a i) where
 mem:=by simp
 obj:=fun i h st b hb=>by
   have e:b=it:=by simpa using hb
   subst e;obtain ⟨o,e,c,d⟩:=st;exact ⟨o,e,fun v z=>by rw [d] at z;cases z⟩
 keep:=fun i h h' st k=>st.at fun o e=>k it (by simp) o e
 item:=by
   intro X hP hw hK hc i pins s σ H E I hf st hg;subst hP hw hK;obtain ⟨xs,x,hq,hx⟩:=hg;obtain ⟨its,rv,p,hz⟩:=I.list hq;obtain ⟨u,hu,ru⟩:=rv.get hx;obtain ⟨f0,f1,f2,f3,f4,f5⟩:=hf it (by simp);refine wpAny_pyNext_list_item st p.isList (x:=u) (by simpa using hu) fun h' st' sb=>?_;have I1:Inv X pins σ H { s with heap:=h' }:=I.turned (t':=s.toks) (fun b o hb e=>(sb.2 b hb).trans e) f0 f1 f3 f4 f5;obtain ⟨o,e,c,d⟩:=id st';exact ⟨u,rfl,Ft (s:={ s with heap:=h' }) e c d (by decide) ⟨x,H,I1,ru,⟨rfl,fun ys hy=>by rw [I.list_inj hy hq];exact hx⟩,st',fun b hb=>(hf b hb).1⟩⟩
 done:=by
   intro X hP hw hK hc i pins s σ H E I hf st hg;subst hP hw hK;obtain ⟨xs,hq,hx⟩:=hg;obtain ⟨its,rv,p,hz⟩:=I.list hq;obtain ⟨f0,f1,f2,f3,f4,f5⟩:=hf it (by simp);have hl:=rv.length;exact wpAny_pyNext_list_end (I.ok.hd hc) st p.isList (by simp;omega) fun h' eb=>⟨rfl,I.turned (t':=s.toks) (fun b o hb e=>eb b o hb e) f0 f1 f3 f4 f5⟩
 self:=fun _ _ _ _ _ st h=>wpAny_pyIter_listiter st h
theorem LY {P:Program} {w:World} {K:PySem.W.Frag} {tg:Expr} (a it:Addr):Turn P w K tg (Itt K a) [it] it (fun i h=>h.IsTupleIter it a i) where
 mem:=by simp
 obj:=fun i h st b hb=>by
   have e:b=it:=by simpa using hb
   subst e;obtain ⟨o,e,c,d⟩:=st;exact ⟨o,e,fun v z=>by rw [d] at z;cases z⟩
 keep:=fun i h h' st k=>st.at fun o e=>k it (by simp) o e
 item:=by
   intro X hP hw hK hc i pins s σ H E I hf st hg;subst hP hw hK;obtain ⟨xs,x,hq,hx⟩:=hg;obtain ⟨its,rv,p,hz⟩:=I.tuple hq;obtain ⟨u,hu,ru⟩:=rv.get hx;obtain ⟨f0,f1,f2,f3,f4,f5⟩:=hf it (by simp);refine wpAny_pyNext_tuple_item st (show s.heap.IsTuple a its.toArray from p) (x:=u) (by simpa using hu) fun h' st' sb=>?_;have I1:Inv X pins σ H { s with heap:=h' }:=I.turned (t':=s.toks) (fun b o hb e=>(sb.2 b hb).trans e) f0 f1 f3 f4 f5;obtain ⟨o,e,c,d⟩:=id st';exact ⟨u,rfl,Ft (s:={ s with heap:=h' }) e c d (by decide) ⟨x,H,I1,ru,⟨rfl,fun ys hy=>by rw [I.tuple_inj hy hq];exact hx⟩,st',fun b hb=>(hf b hb).1⟩⟩
 done:=by
   intro X hP hw hK hc i pins s σ H E I hf st hg;subst hP hw hK;obtain ⟨xs,hq,hx⟩:=hg;obtain ⟨its,rv,p,hz⟩:=I.tuple hq;obtain ⟨f0,f1,f2,f3,f4,f5⟩:=hf it (by simp);have hl:=rv.length;exact wpAny_pyNext_tuple_end (I.ok.hd hc) st (show s.heap.IsTuple a its.toArray from p) (by simp;omega) fun h' eb=>⟨rfl,I.turned (t':=s.toks) (fun b o hb e=>eb b o hb e) f0 f1 f3 f4 f5⟩
 self:=fun _ _ _ _ _ st h=>wpAny_pyIter_tupleiter st h
theorem LX {P:Program} {w:World} {K:PySem.W.Frag} {tg:Expr} (it:Addr) (lo:Int) (n:Nat):Turn P w K tg (Itr lo n) [it] it (fun i h=>IsRangeIter h it (lo+(i:Nat)*1) ((n:Int) - (i:Nat)) 1) where
 mem:=by simp
 obj:=fun i h st b hb=>by
   have e:b=it:=by simpa using hb
   subst e;exact ⟨_,st,fun v z=>by
     have z':Data.fields _=Data.cell v:=z;cases z'⟩
 keep:=fun i h h' st k=>k it (by simp) _ st
 item:=by
   intro X hP hw hK hc i pins s σ H E I hf st hg;subst hP hw hK;obtain ⟨f0,f1,f2,f3,f4,f5⟩:=hf it (by simp);have W:=Walks.range (prog:=X.prog) (w:=X.w) (I.ok.hd hc) it lo 1 n;refine W.item i s _ _ hg st fun v h' tk hv st' kk=>?_;obtain ⟨t,rfl⟩:=hv;have I1:Inv X pins σ H { s with heap:=h',toks:=tk }:=I.turned (fun b o hb e=>kk b o (by simpa using hb) e) f0 f1 f3 f4 f5;refine ⟨_,rfl,Ft (s:={ s with heap:=h',toks:=tk }) (n:="range_iterator") st' rfl rfl (by decide) ⟨.int (lo+i),H,I1,⟨t,?_⟩,⟨rfl,rfl⟩,st',fun b hb=>(hf b hb).1⟩⟩;rw [Int.mul_one]
 done:=by
   intro X hP hw hK hc i pins s σ H E I hf st hg;subst hP hw hK;obtain ⟨f0,f1,f2,f3,f4,f5⟩:=hf it (by simp);exact wpAny_pyNext_range_end (I.ok.hd hc) st (by have:n<=i:=hg;omega) fun h' eb=>⟨rfl,I.turned (t':=s.toks) (fun b o hb e=>eb b o hb e) f0 f1 f3 f4 f5⟩
 self:=fun _ _ _ _ _ st h=>wpAny_pyIter_rangeiter st h
end L2
namespace L2
open PySem PySem.Spec PyProof.Rows
section
variable {X:Cx} {tg:Expr}
def KM (K:PySem.W.Frag) (tl:TE):TI:=fun σ H R=>tl σ H fun x H1=>∃ a,x=.ref a/\(∃ xs,SqL K H1 a xs)/\R (Itl K a) H1
def Rn (K:PySem.W.Frag) (tl:TE):TI:=fun σ H R=>tl σ H fun x H1=>∃ a,x=.ref a/\(∃ xs,SqT K H1 a xs)/\R (Itt K a) H1
theorem eY {l:Expr} {tl:TE} (hl:PE X l tl):PI X tg l (KM X.K tl):=by
 intro pins s σ H R I h;refine bx (hl pins s σ H _ I h) fun v s1 x H1 I1 r1 q1=>?_;obtain ⟨a,e,⟨xs,hq⟩,q⟩:=q1;subst e;cases r1;obtain ⟨its,rv,p,hz⟩:=I1.list hq;refine wpAny_pyIter_list p.isList ?_;refine ⟨s1.heap.objs.size,[s1.heap.objs.size],_,_,H1,rfl,I1.kept (t':=s1.toks) fun b o e=>Heap.get?_push_of_some _ e,Nq a _,⟨_,Heap.get?_push_size _ rfl,rfl,rfl⟩,fun b hb=>?_,q⟩;have e:b=s1.heap.objs.size:=by simpa using hb
 subst e;exact I1.fpOk (Nat.le_refl _) (I1.hok.fresh (Nat.le_refl _))
theorem xq {l:Expr} {tl:TE} (hl:PE X l tl):PI X tg l (Rn X.K tl):=by
 intro pins s σ H R I h;refine bx (hl pins s σ H _ I h) fun v s1 x H1 I1 r1 q1=>?_;obtain ⟨a,e,⟨xs,hq⟩,q⟩:=q1;subst e;cases r1;obtain ⟨its,rv,p,hz⟩:=I1.tuple hq;refine wpAny_pyIter_tuple (show s1.heap.IsTuple a its.toArray from p) ?_;refine ⟨s1.heap.objs.size,[s1.heap.objs.size],_,_,H1,rfl,I1.kept (t':=s1.toks) fun b o e=>Heap.get?_push_of_some _ e,LY a _,⟨_,Heap.get?_push_size _ rfl,rfl,rfl⟩,fun b hb=>?_,q⟩;have e:b=s1.heap.objs.size:=by simpa using hb
 subst e;exact I1.fpOk (Nat.le_refl _) (I1.hok.fresh (Nat.le_refl _))
theorem GC {pins:List (Addr × Obj)} {σ:St} {H:Hp} {s:Shared} {R:It->Hp->Prop} {E:Value->Shared->Prop} {lo hi:Int} {t u v:Tok} {tk:Nat} (I:Inv X pins σ H s) (h1:-(2^62)<=lo) (h2:lo<2^62) (h3:-(2^62)<=hi) (h4:hi<2^62)
   (q:R (Itr lo (hi - lo).toNat) H):wpAny (model X.prog X.w) X.A (pyIter (.ref s.heap.objs.size)) (PIE X pins σ tg R) E { s with heap:=s.heap.push { cls:=.type "range",data:=.fields #[.int lo t,.int hi u,.int 1 v] },toks:=tk }:=by
 refine wpAny_pyIter_range (IsRange.new ..) (small_one h1 h2 h3 h4) ?_;have I1:Inv X pins σ H { s with heap:=s.heap.push { cls:=.type "range",data:=.fields #[.int lo t,.int hi u,.int 1 v] },toks:=tk }:=I.kept fun b o e=>Heap.get?_push_of_some _ e;refine ⟨(s.heap.push { cls:=.type "range",data:=.fields #[.int lo t,.int hi u,.int 1 v] }).objs.size,[(s.heap.push { cls:=.type "range",data:=.fields #[.int lo t,.int hi u,.int 1 v] }).objs.size],_,_,H,rfl,
   I1.kept (t':=tk) fun b o e=>Heap.get?_push_of_some _ e,LX _ lo (hi - lo).toNat,?_,fun b hb=>?_,q⟩
 . have e1:lo+((0:Nat):Int)*1=lo:=by simp
   have e2:(((hi - lo).toNat:Nat):Int) - ((0:Nat):Int)=Builtin.Range.rangeSize lo hi 1:=by rw [rangeSize_one];split <;> omega
   show IsRangeIter _ _ (lo+((0:Nat):Int)*1) ((((hi - lo).toNat:Nat):Int) - ((0:Nat):Int)) 1;rw [e1,e2];exact Heap.get?_push_size _ rfl
 . have e:b=(s.heap.push { cls:=.type "range",data:=.fields #[.int lo t,.int hi u,.int 1 v] }).objs.size:=by simpa using hb
   subst e;exact I1.fpOk (Nat.le_refl _) (I1.hok.fresh (Nat.le_refl _))
def Mg (ta:TA):TI:=fun σ H R=>ta σ H fun vs H1=>∃ j:Int,vs=[.int j]/\-(2^62)<=j/\j<2^62/\R (Itr 0 j.toNat) H1
def Mv (ta:TA):TI:=fun σ H R=>ta σ H fun vs H1=>∃ i j:Int,vs=[.int i,.int j]/\(-(2^62)<=i/\i<2^62/\-(2^62)<=j/\j<2^62)/\R (Itr i (j - i).toNat) H1
theorem eR {a:Expr} {ta:TA} {p pos:Pos} (hg:Gl X "range") (hm:X.mg "range"=none) (ha:PA X [a] ta) (hs:starEach [a] X.env=[(false,eval a X.env)]:=by rfl):PI X tg (.Call (.Name "range" p) [a] [] pos) (Mg ta):=by
 intro pins s σ H R I h;refine Call_ (kH I hg hm boot_range (PyProof.Rows.callWith_type1 (tq (ha pos pins s σ H _ I h) fun us s1 vs H1 I1 r1 q1=>?_) hs rfl));obtain ⟨j,e,q1,q2,q⟩:=q1;subst e;cases r1 with
 | cons r rr =>
   cases rr;obtain ⟨t,rfl⟩:=r;exact call_range_1 (GC I1 (by omega) (by omega) q1 q2 (by simpa using q))
theorem Ef {a b:Expr} {ta:TA} {p pos:Pos} (hg:Gl X "range") (hm:X.mg "range"=none) (ha:PA X [a,b] ta) (hs:starEach [a,b] X.env=[(false,eval a X.env),(false,eval b X.env)]:=by rfl) (hs2:starEach [b] X.env=[(false,eval b X.env)]:=by rfl) :
   PI X tg (.Call (.Name "range" p) [a,b] [] pos) (Mv ta):=by
 intro pins s σ H R I h;refine Call_ (kH I hg hm boot_range (PyProof.Rows.callWith_type1 (tq (ha pos pins s σ H _ I h) fun us s1 vs H1 I1 r1 q1=>?_) (by rw [hs,hs2]) (by rw [hs2];rfl)));obtain ⟨i,j,e,⟨q1,q2,q3,q4⟩,q⟩:=q1;subst e;cases r1 with
 | cons r rr =>
   cases rr with
   | cons r' rr =>
     cases rr;obtain ⟨t,rfl⟩:=r;obtain ⟨t',rfl⟩:=r';exact call_range_2 (GC I1 q1 q2 q3 q4 q)
def Tk (wi:TI) (g:TG) (tb:TS):TS:=fun D σ H=>wi σ H fun J H1=>∃ W:Nat->Nat->St->Hp->Prop,(∃ m,W 0 m σ H1)/\∀ i m σ H,W i m σ H ->
 (J.stop i H/\D.nx σ H)\/(J.go i H/\∃ N:St->Hp->Prop,(∀ σ' H',N σ' H'->∃ m',m'<m/\W (i+1) m' σ' H')/\∀ x H',J.yld i H x H'->g x σ H' fun σ2 H2=>tb { D with nx:=N,ct:=N,bk:=D.nx } σ2 H2)
def uv (fp:List Addr) (h:Heap):List (Addr × Obj):=fp.filterMap fun b=>(h.get? b).map fun o=>(b,o)
theorem kg {fp:List Addr} {h:Heap} {b:Addr} {o:Obj} (hb:b∈fp) (e:h.get? b=some o):(b,o)∈uv fp h:=List.mem_filterMap.mpr ⟨b,hb,by rw [e];rfl⟩
theorem Nh {fp:List Addr} {h:Heap} {p:Addr × Obj} (hp:p∈uv fp h):p.1∈fp/\h.get? p.1=some p.2:=by
 obtain ⟨b,hb,e⟩:=List.mem_filterMap.mp hp;cases q:h.get? b with
 | none=>rw [q] at e;cases e
 | some o =>
   rw [q] at e;have e':(b,o)=p:=Option.some.inj e;subst e';exact ⟨hb,q⟩
theorem Inv.pinned {pins:List (Addr × Obj)} {σ:St} {H:Hp} {s:Shared} {fp:List Addr} (I:Inv X pins σ H s) (hf:∀ b∈fp,ly X pins H b) (ho:∀ b∈fp,∃ o,s.heap.get? b=some o/\∀ v,o.data≠.cell v):Inv X (pins++uv fp s.heap) σ H s :=
 I.pins_of fun p hp=>(List.mem_append.mp hp).elim (fun z=>I.pin p (List.mem_append_right _ z)) fun z=>by
   obtain ⟨hb,e⟩:=Nh z;obtain ⟨f0,f1,f2,_⟩:=hf p.1 hb;obtain ⟨o,e',d⟩:=ho p.1 hb;rw [e] at e';cases e';exact ⟨e,f0,f1,f2,d⟩
theorem Inv.unpinned {pins pl:List (Addr × Obj)} {σ:St} {H:Hp} {s:Shared} (I:Inv X (pins++pl) σ H s):Inv X pins σ H s:=I.pins_of fun p hp=>I.pin p (List.mem_append_right _ (List.mem_append_left _ hp))
theorem cq {iter:Expr} {body:List Stmt} {wi:TI} {g:TG} {tb:TS} {pos:Pos} (hp:PassesOwn (model X.prog X.w) X.A X.env X.xe) (hc:X.calm=true) (hi:PI X tg iter wi) (hg:PG X tg g) (hb:PSs X body tb)
   (hs:∀ x,foldedSetIterable iter X.env x=pure x:=by intro _;rfl):PS X (.For tg iter body [] pos) (Tk wi g tb):=by
 intro pins s σ H D I h;refine wpAny_For (thn (hi pins s σ H _ I h) fun v s1 h1=>thn h1 fun itv s2 h2=>?_) hs;obtain ⟨it,fp,tn,J,H2,e,I2,T,st2,f2,W,⟨m0,w0⟩,turn⟩:=h2;subst e;have stat:∀ {H':Hp},(∀ b∈fp,H' b=none)->∀ b∈fp,ly X pins H' b:=fun hn b hb=>⟨hn b hb,(f2 b hb).2⟩;refine codeAny_forLoop_any (fun n s'=>∃ i σ' H',Inv X pins σ' H' s'/\tn i s'.heap/\(∀ b∈fp,H' b=none)/\W i n σ' H') ?_ m0 ⟨0,σ,H2,I2,st2,fun b hb=>(f2 b hb).1,w0⟩;rintro n s3 ⟨i,σ3,H3,I3,st3,fr3,w3⟩;rcases turn i n σ3 H3 w3 with ⟨stop,qn⟩|⟨go,N,hN,step⟩
 . refine wpAny_passesOwn hp (thn (T.done X rfl rfl rfl hc i pins s3 σ3 H3 X.xe I3 (stat fr3) st3 stop) fun r s4 ⟨hr,I4⟩=>?_);subst hr;exact wpAny_execs_nil ⟨σ3,H3,I4,qn⟩
 . refine wpAny_passesOwn hp (thn (T.item X rfl rfl rfl hc i pins s3 σ3 H3 X.xe I3 (stat fr3) st3 go) fun r s4 ⟨u,hr,h4⟩=>?_);subst hr;refine wpAny_passesOwn hp (thn h4 fun _ s5 ⟨x,H5,I5,r5,y5,st5,fr5⟩=>?_);have I5':=I5.pinned (stat fr5) (T.obj _ _ st5);refine wpAny_passesOwn hp (thn (hg _ s5 σ3 H5 x u _ I5' r5 (step x H5 y5)) fun _ s6 ⟨σ6,H6,I6,q6⟩=>?_);refine wpAny_passesOwn hp (thn (hb _ s6 σ6 H6 _ I6 q6) fun f s7 q7=>?_);have again:∀ {σ7:St} {H7:Hp},Inv X (pins++uv fp s5.heap) σ7 H7 s7->N σ7 H7->∃ m,m<n/\∃ i σ' H',Inv X pins σ' H' s7/\tn i s7.heap/\(∀ b∈fp,H' b=none)/\W i m σ' H':=fun {σ7 H7} I7 n7=>by
     obtain ⟨m',hm,w7⟩:=hN σ7 H7 n7;refine ⟨m',hm,i+1,σ7,H7,I7.unpinned,T.keep _ _ _ st5 fun b hb o e=>(I7.pin (b,o) (List.mem_append_right _ (List.mem_append_right _ (kg hb e)))).1,fun b hb=>?_,w7⟩;obtain ⟨o,e,d⟩:=T.obj _ _ st5 b hb;exact (I7.pin (b,o) (List.mem_append_right _ (List.mem_append_right _ (kg hb e)))).2.1
   cases f with
   | next=>obtain ⟨σ7,H7,I7,n7⟩:=q7;exact again I7 n7
   | cont=>obtain ⟨σ7,H7,I7,n7⟩:=q7;exact again I7 n7
   | brk=>obtain ⟨σ7,H7,I7,q7⟩:=q7;exact ⟨σ7,H7,I7.unpinned,q7⟩
   | ret v=>obtain ⟨x7,σ7,H7,I7,r7,q7⟩:=q7;exact ⟨x7,σ7,H7,I7.unpinned,r7,q7⟩
end
theorem Ri {K:PySem.W.Frag} {a:Addr} {xs:List V} {g:TG} {tb:TS} {D:Ends} {σ:St} {H:Hp} (Pv:Nat->St->Hp->Prop) (h0:Pv 0 σ H) (hl:∀ i σ H,i<=xs.length->Pv i σ H->SqL K H a xs)
   (hs:∀ i x σ H,xs[i]?=some x->Pv i σ H->g x σ H fun σ2 H2=>tb { D with nx:=Pv (i+1),ct:=Pv (i+1),bk:=D.nx } σ2 H2) (hd:∀ σ H,Pv xs.length σ H->D.nx σ H) :
   ∃ W:Nat->Nat->St->Hp->Prop,(∃ m,W 0 m σ H)/\∀ i m σ H,W i m σ H ->
     ((Itl K a).stop i H/\D.nx σ H)\/((Itl K a).go i H/\∃ N:St->Hp->Prop,(∀ σ' H',N σ' H'->∃ m',m'<m/\W (i+1) m' σ' H')/\∀ x H',(Itl K a).yld i H x H'->g x σ H' fun σ2 H2=>tb { D with nx:=N,ct:=N,bk:=D.nx } σ2 H2):=by
 refine ⟨fun i m σ H=>m=xs.length - i/\i<=xs.length/\Pv i σ H,⟨xs.length,by simp,Nat.zero_le _,h0⟩,?_⟩;rintro i m σ H ⟨rfl,hi,p⟩;have q:=hl i σ H hi p;by_cases hlt:i<xs.length
 . refine .inr ⟨⟨xs,xs[i],q,by simp [hlt]⟩,Pv (i+1),fun σ' H' p'=>⟨xs.length - (i+1),by omega,rfl,hlt,p'⟩,fun x H' y=>?_⟩;obtain ⟨e,y⟩:=y;subst e;exact hs i x σ _ (y xs q) p
 . have e:i=xs.length:=by omega
   subst e;exact .inl ⟨⟨xs,q,Nat.le_refl _⟩,hd σ H p⟩
theorem CM {K:PySem.W.Frag} {a:Addr} {xs:List V} {g:TG} {tb:TS} {D:Ends} {σ:St} {H:Hp} (Pv:Nat->St->Hp->Prop) (h0:Pv 0 σ H) (hl:∀ i σ H,i<=xs.length->Pv i σ H->SqT K H a xs)
   (hs:∀ i x σ H,xs[i]?=some x->Pv i σ H->g x σ H fun σ2 H2=>tb { D with nx:=Pv (i+1),ct:=Pv (i+1),bk:=D.nx } σ2 H2) (hd:∀ σ H,Pv xs.length σ H->D.nx σ H) :
   ∃ W:Nat->Nat->St->Hp->Prop,(∃ m,W 0 m σ H)/\∀ i m σ H,W i m σ H ->
     ((Itt K a).stop i H/\D.nx σ H)\/((Itt K a).go i H/\∃ N:St->Hp->Prop,(∀ σ' H',N σ' H'->∃ m',m'<m/\W (i+1) m' σ' H')/\∀ x H',(Itt K a).yld i H x H'->g x σ H' fun σ2 H2=>tb { D with nx:=N,ct:=N,bk:=D.nx } σ2 H2):=by
 refine ⟨fun i m σ H=>m=xs.length - i/\i<=xs.length/\Pv i σ H,⟨xs.length,by simp,Nat.zero_le _,h0⟩,?_⟩;rintro i m σ H ⟨rfl,hi,p⟩;have q:=hl i σ H hi p;by_cases hlt:i<xs.length
 . refine .inr ⟨⟨xs,xs[i],q,by simp [hlt]⟩,Pv (i+1),fun σ' H' p'=>⟨xs.length - (i+1),by omega,rfl,hlt,p'⟩,fun x H' y=>?_⟩;obtain ⟨e,y⟩:=y;subst e;exact hs i x σ _ (y xs q) p
 . have e:i=xs.length:=by omega
   subst e;exact .inl ⟨⟨xs,q,Nat.le_refl _⟩,hd σ H p⟩
theorem NK {lo:Int} {n:Nat} {g:TG} {tb:TS} {D:Ends} {σ:St} {H:Hp} (Pv:Nat->St->Hp->Prop) (h0:Pv 0 σ H)
   (hs:∀ i σ H,i<n->Pv i σ H->g (.int (lo+i)) σ H fun σ2 H2=>tb { D with nx:=Pv (i+1),ct:=Pv (i+1),bk:=D.nx } σ2 H2) (hd:∀ σ H,Pv n σ H->D.nx σ H) :
   ∃ W:Nat->Nat->St->Hp->Prop,(∃ m,W 0 m σ H)/\∀ i m σ H,W i m σ H ->
     ((Itr lo n).stop i H/\D.nx σ H)\/((Itr lo n).go i H/\∃ N:St->Hp->Prop,(∀ σ' H',N σ' H'->∃ m',m'<m/\W (i+1) m' σ' H')/\∀ x H',(Itr lo n).yld i H x H'->g x σ H' fun σ2 H2=>tb { D with nx:=N,ct:=N,bk:=D.nx } σ2 H2):=by
 refine ⟨fun i m σ H=>m=n - i/\i<=n/\Pv i σ H,⟨n,by simp,Nat.zero_le _,h0⟩,?_⟩;rintro i m σ H ⟨rfl,hi,p⟩;by_cases hlt:i<n
 . refine .inr ⟨hlt,Pv (i+1),fun σ' H' p'=>⟨n - (i+1),by omega,rfl,hlt,p'⟩,fun x H' y=>?_⟩;obtain ⟨e,y⟩:=y;subst e y;exact hs i σ _ hlt p
 . have e:i=n:=by omega
   subst e;exact .inl ⟨Nat.le_refl _,hd σ H p⟩
end L2
namespace L2
open PySem PySem.Spec PyProof.Rows
abbrev R2:=V->V->Hp->VK->Prop
def OpR (X:Cx) (f:Value->Value->Sem Value) (r:R2):Prop :=
 ∀ (pins:List (Addr × Obj)) (s:Shared) (σ:St) (H:Hp) (x y:V) (v u:Value) (Q:VK),Inv X pins σ H s->RelV x v->RelV y u->r x y H Q ->
   wpAny (model X.prog X.w) X.A (f v u) (EP X pins σ Q) X.xe s
def UnR (X:Cx) (f:Value->Sem Value) (r:V->Hp->VK->Prop):Prop :=
 ∀ (pins:List (Addr × Obj)) (s:Shared) (σ:St) (H:Hp) (x:V) (v:Value) (Q:VK),Inv X pins σ H s->RelV x v->r x H Q ->
   wpAny (model X.prog X.w) X.A (f v) (EP X pins σ Q) X.xe s
def j9 (X:Cx) (f:Value) (r:List V->Hp->VK->Prop):Prop :=
 ∀ (pins:List (Addr × Obj)) (s:Shared) (σ:St) (H:Hp) (xs:List V) (us:List Value) (Q:VK),Inv X pins σ H s->Vals xs us->r xs H Q ->
   wpAny (model X.prog X.w) X.A (call f us) (EP X pins σ Q) X.xe s
def UV (X:Cx) (r:V->Hp->(Bool->Hp->Prop)->Prop):Prop :=
 ∀ (pins:List (Addr × Obj)) (s:Shared) (σ:St) (H:Hp) (x:V) (v:Value) (Q:Bool->Hp->Prop),Inv X pins σ H s->RelV x v->r x H Q ->
   wpAny (model X.prog X.w) X.A (truthy v) (TP X pins σ Q) X.xe s
def tOp (r:R2) (ta tb:TE):TE:=fun σ H Q=>ta σ H fun x H1=>tb σ H1 fun y H2=>r x y H2 Q
def tUn (r:V->Hp->VK->Prop) (ta:TE):TE:=fun σ H Q=>ta σ H fun x H1=>r x H1 Q
def rI (C:Int->Int->Prop) (g:Int->Int->V):R2:=fun x y H Q=>∃ i j,x=.int i/\y=.int j/\C i j/\Q (g i j) H
def rI0 (g:Int->Int->V):R2:=fun x y H Q=>∃ i j,x=.int i/\y=.int j/\Q (g i j) H
def rU (g:Int->V):V->Hp->VK->Prop:=fun x H Q=>∃ i,x=.int i/\Q (g i) H
section
variable {X:Cx} {a b c:Expr} {ta tb tc:TE} {pos:Pos}
theorem PJ (ha:PE X a ta) (hb:PE X b tb) {pins:List (Addr × Obj)} {s:Shared} {σ:St} {H:Hp} {R:V->V->Hp->Prop} (I:Inv X pins σ H s)
   (h:ta σ H fun x H1=>tb σ H1 fun y H2=>R x y H2) {Q:Value->Shared->Prop} {f:Value->Value->Sem Value}
   (hf:∀ v u s2 x y H2,Inv X pins σ H2 s2->RelV x v->RelV y u->R x y H2->wpAny (model X.prog X.w) X.A (f v u) Q X.xe s2) :
   wpAny (model X.prog X.w) X.A (eval a X.env) (fun v s₁=>wpAny (model X.prog X.w) X.A (eval b X.env) (fun u s₂=>wpAny (model X.prog X.w) X.A (f v u) Q X.xe s₂) X.xe s₁) X.xe s:=by
 refine bx (ha pins s σ H _ I h) fun v s1 x H1 I1 r1 q1=>?_;refine bx (hb pins s1 σ H1 _ I1 q1) fun u s2 y H2 I2 r2 q2=>?_;exact hf v u s2 x y H2 I2 r1 r2 q2
theorem aq {op:Operator} {r:R2} (ho:OpR X (binaryOp op) r) (ha:PE X a ta) (hb:PE X b tb):PE X (.BinOp a op b pos) (tOp r ta tb):=by
 intro pins s σ H Q I h;exact wpAny_BinOp (PJ ha hb I h fun v u s2 x y H2 I2 rx ry q=>ho pins s2 σ H2 x y v u Q I2 rx ry q)
theorem LO {op:UnaryOp} {r:V->Hp->VK->Prop} (ho:UnR X (unaryOp op) r) (ha:PE X a ta):PE X (.UnaryOp op a pos) (tUn r ta):=by
 intro pins s σ H Q I h;exact UnaryOp_ (bx (ha pins s σ H _ I h) fun v s1 x H1 I1 r1 q1=>ho pins s1 σ H1 x v Q I1 r1 q1)
theorem opI {f:Value->Value->Sem Value} {C:Int->Int->Prop} {g:Int->Int->Int}
   (rule:∀ (i j:Int) (t u:Tok) (s:Shared) (Q:Value->Shared->Prop) (E:Value->Shared->Prop),C i j->Q (.int (g i j) s.toks) { s with toks:=s.toks+1 }->wpAny (model X.prog X.w) X.A (f (.int i t) (.int j u)) Q E s) :
   OpR X f (rI C fun i j=>.int (g i j)):=by
 intro pins s σ H x y v u Q I rx ry h;obtain ⟨i,j,rfl,rfl,hc,q⟩:=h;obtain ⟨t,rfl⟩:=rx;obtain ⟨t',rfl⟩:=ry;exact rule i j t t' s _ _ hc ⟨.int (g i j),H,I.tok _,⟨_,rfl⟩,q⟩
theorem TF {f:Value->Value->Sem Value} {g:Int->Int->Int}
   (rule:∀ (i j:Int) (t u:Tok) (s:Shared) (Q:Value->Shared->Prop) (E:Value->Shared->Prop),Q (.int (g i j) s.toks) { s with toks:=s.toks+1 }->wpAny (model X.prog X.w) X.A (f (.int i t) (.int j u)) Q E s) :
   OpR X f (rI0 fun i j=>.int (g i j)):=by
 intro pins s σ H x y v u Q I rx ry h;obtain ⟨i,j,rfl,rfl,q⟩:=h;obtain ⟨t,rfl⟩:=rx;obtain ⟨t',rfl⟩:=ry;exact rule i j t t' s _ _ ⟨.int (g i j),H,I.tok _,⟨_,rfl⟩,q⟩
theorem Qe {f:Value->Value->Sem Value} {g:Int->Int->Bool}
   (rule:∀ (i j:Int) (t u:Tok) (s:Shared) (Q:Value->Shared->Prop) (E:Value->Shared->Prop),Q (.bool (g i j)) s->wpAny (model X.prog X.w) X.A (f (.int i t) (.int j u)) Q E s) :
   OpR X f (rI0 fun i j=>.bl (g i j)):=by
 intro pins s σ H x y v u Q I rx ry h;obtain ⟨i,j,rfl,rfl,q⟩:=h;obtain ⟨t,rfl⟩:=rx;obtain ⟨t',rfl⟩:=ry;exact rule i j t t' s _ _ ⟨.bl (g i j),H,I,rfl,q⟩
def TU (i j:Int):Prop:=0<j/\j<1073741824
def Tq (i j:Int):Prop:=0<=j/\j<=1000000/\i.natAbs<2^64
def CMul (i j:Int):Prop:=(-(2^64)<i/\i<2^64)\/(-(2^64)<j/\j<2^64)
theorem CMul.ok {i j:Int} (h:CMul i j):IntMulOk i j:=by
 rcases h with ⟨h1,h2⟩|⟨h1,h2⟩
 . exact .of_left (intBits_le_64 h1 h2)
 . exact .of_right (intBits_le_64 h1 h2)
theorem bu:OpR X (binaryOp .Add) (rI0 fun i j=>.int (i+j)):=TF fun _ _ _ _ _ _ _ q=>add_int q
theorem gY:OpR X (binaryOp .Sub) (rI0 fun i j=>.int (i - j)):=TF fun _ _ _ _ _ _ _ q=>sub_int q
theorem dU:OpR X (binaryOp .Mult) (rI CMul fun i j=>.int (i*j)):=opI fun _ _ _ _ _ _ _ hc q=>mul_int q hc.ok
theorem cP:OpR X (binaryOp .FloorDiv) (rI TU fun i j=>.int (i / j)):=opI fun i j _ _ _ _ _ hc q=>by
 have h1:(0:Int)<j:=hc.1;have h2:j<1073741824:=hc.2;exact floordiv_int (by omega) (by rw [Int.fdiv_eq_ediv_of_nonneg i (by omega)];exact q) (.inl (PyProof.noPylong_small (by omega)))
theorem bo:OpR X (binaryOp .Mod) (rI (fun _ j=>0<j) fun i j=>.int (i % j)):=opI fun i j _ _ _ _ _ hc q=>by
 have h1:(0:Int)<j:=hc;exact mod_int' (by omega) (by rw [Int.fmod_eq_emod_of_nonneg i (by omega)];exact q)
theorem F8:OpR X (binaryOp .Pow) (rI Tq fun i j=>.int (i^j.toNat)):=opI fun _ _ _ _ _ _ _ hc q=>pow_int_small hc.1 hc.2.1 hc.2.2 q
theorem unI {f:Value->Sem Value} {g:Int->Int}
   (rule:∀ (i:Int) (t:Tok) (s:Shared) (Q:Value->Shared->Prop) (E:Value->Shared->Prop),Q (.int (g i) s.toks) { s with toks:=s.toks+1 }->wpAny (model X.prog X.w) X.A (f (.int i t)) Q E s) :
   UnR X f (rU fun i=>.int (g i)):=by
 intro pins s σ H x v Q I rx h;obtain ⟨i,rfl,q⟩:=h;obtain ⟨t,rfl⟩:=rx;exact rule i t s _ _ ⟨.int (g i),H,I.tok _,⟨_,rfl⟩,q⟩
theorem Gh:UnR X (unaryOp .USub) (rU fun i=>.int (-i)):=unI fun _ _ _ _ _ q=>neg_int q
end
def rL:V->V->Bool
 | .non,.non=>true|.non,.int _=>true|.int _,.non=>true|.non,.bl _=>true|.bl _,.non=>true|.non,.str _=>true|.str _,.non=>true
 | .int _,.int _=>true|.bl _,.bl _=>true|.str _,.str _=>true|.byt _,.byt _=>true
 | .int _,.str _=>true|.str _,.int _=>true|.bl _,.str _=>true|.str _,.bl _=>true
 | _,_=>false
def rEq:R2:=fun x y H Q=>rL x y=true/\Q (.bl (decide (x=y))) H
def rNe:R2:=fun x y H Q=>rL x y=true/\Q (.bl (!decide (x=y))) H
theorem Kq {i j:Int}:decide (V.int i=V.int j)=(i == j):=by
 rw [Bool.eq_iff_iff];simp
theorem MZ {i j:Bool}:decide (V.bl i=V.bl j)=(i == j):=by
 rw [Bool.eq_iff_iff];simp
theorem Kb {i j:Str}:decide (V.str i=V.str j)=(i == j):=by
 rw [Bool.eq_iff_iff];simp
theorem Ko {i j:Array UInt8}:decide (V.byt i=V.byt j)=(i.toList == j.toList):=by
 rw [Bool.eq_iff_iff];cases i;cases j;simp
section
variable {X:Cx} {a b c:Expr} {ta tb tc:TE} {pos:Pos}
theorem bF {pins:List (Addr × Obj)} {σ:St} {H:Hp} {s:Shared} {Q:VK} {k k':Bool} (I:Inv X pins σ H s) (q:Q (.bl k) H) (e:k=k'):EP X pins σ Q (.bool k') s:=by
 subst e;exact ⟨.bl k,H,I,rfl,q⟩
theorem fG:OpR X (compareOp .Eq) rEq:=by
 intro pins s σ H x y v u Q I rx ry h;obtain ⟨hs,q⟩:=h;cases x with
 | non =>
   cases rx;cases y with
   | non=>cases ry;exact PySem.EqNone.eq_none_none (bF I q (by simp))
   | bl j=>cases ry;exact PySem.EqNone.eq_none_bool (bF I q (by simp))
   | int j=>obtain ⟨t',rfl⟩:=ry;exact PySem.EqNone.eq_none_int (bF I q (by simp))
   | str j=>obtain ⟨t',rfl⟩:=ry;exact PySem.EqNone.eq_none_str (bF I q (by simp))
   | _=>exact absurd (show false=true from hs) Bool.false_ne_true
 | bl i =>
   cases rx;cases y with
   | non=>cases ry;exact PySem.EqNone.eq_bool_none (bF I q (by simp))
   | bl j=>cases ry;exact eq_bool (bF I q MZ)
   | str j=>obtain ⟨t',rfl⟩:=ry;exact PySem.EqMixed.eq_bool_str (bF I q (by simp))
   | _=>exact absurd (show false=true from hs) Bool.false_ne_true
 | int i =>
   obtain ⟨t,rfl⟩:=rx;cases y with
   | non=>cases ry;exact PySem.EqNone.eq_int_none (bF I q (by simp))
   | int j=>obtain ⟨t',rfl⟩:=ry;exact eq_int (bF I q Kq)
   | str j=>obtain ⟨t',rfl⟩:=ry;exact PySem.EqMixed.eq_int_str (bF I q (by simp))
   | _=>exact absurd (show false=true from hs) Bool.false_ne_true
 | str i =>
   obtain ⟨t,rfl⟩:=rx;cases y with
   | non=>cases ry;exact PySem.EqNone.eq_str_none (bF I q (by simp))
   | bl j=>cases ry;exact PySem.EqMixed.eq_str_bool (bF I q (by simp))
   | int j=>obtain ⟨t',rfl⟩:=ry;exact PySem.EqMixed.eq_str_int (bF I q (by simp))
   | str j=>obtain ⟨t',rfl⟩:=ry;exact eq_str (bF I q Kb)
   | _=>exact absurd (show false=true from hs) Bool.false_ne_true
 | byt i =>
   obtain ⟨t,rfl⟩:=rx;cases y with
   | byt j=>obtain ⟨t',rfl⟩:=ry;exact PySem.W.eq_bytes (bF I q Ko)
   | _=>exact absurd (show false=true from hs) Bool.false_ne_true
 | _=>cases y <;> exact absurd (show false=true from hs) Bool.false_ne_true
theorem sA:OpR X (compareOp .NotEq) rNe:=by
 intro pins s σ H x y v u Q I rx ry h;obtain ⟨hs,q⟩:=h;cases x with
 | non =>
   cases rx;cases y with
   | non=>cases ry;exact PySem.EqNone.ne_none_none (bF I q (by simp))
   | bl j=>cases ry;exact PySem.EqNone.ne_none_bool (bF I q (by simp))
   | int j=>obtain ⟨t',rfl⟩:=ry;exact PySem.EqNone.ne_none_int (bF I q (by simp))
   | str j=>obtain ⟨t',rfl⟩:=ry;exact PySem.EqNone.ne_none_str (bF I q (by simp))
   | _=>exact absurd (show false=true from hs) Bool.false_ne_true
 | bl i =>
   cases rx;cases y with
   | non=>cases ry;exact PySem.EqNone.ne_bool_none (bF I q (by simp))
   | bl j=>cases ry;exact ne_bool (bF I q (congrArg not MZ))
   | str j=>obtain ⟨t',rfl⟩:=ry;exact PySem.EqMixed.ne_bool_str (bF I q (by simp))
   | _=>exact absurd (show false=true from hs) Bool.false_ne_true
 | int i =>
   obtain ⟨t,rfl⟩:=rx;cases y with
   | non=>cases ry;exact PySem.EqNone.ne_int_none (bF I q (by simp))
   | int j=>obtain ⟨t',rfl⟩:=ry;exact ne_int (bF I q (congrArg not Kq))
   | str j=>obtain ⟨t',rfl⟩:=ry;exact PySem.EqMixed.ne_int_str (bF I q (by simp))
   | _=>exact absurd (show false=true from hs) Bool.false_ne_true
 | str i =>
   obtain ⟨t,rfl⟩:=rx;cases y with
   | non=>cases ry;exact PySem.EqNone.ne_str_none (bF I q (by simp))
   | bl j=>cases ry;exact PySem.EqMixed.ne_str_bool (bF I q (by simp))
   | int j=>obtain ⟨t',rfl⟩:=ry;exact PySem.EqMixed.ne_str_int (bF I q (by simp))
   | str j=>obtain ⟨t',rfl⟩:=ry;exact ne_str (bF I q (congrArg not Kb))
   | _=>exact absurd (show false=true from hs) Bool.false_ne_true
 | byt i =>
   obtain ⟨t,rfl⟩:=rx;cases y with
   | byt j=>obtain ⟨t',rfl⟩:=ry;exact PySem.W.ne_bytes (bF I q (congrArg not Ko))
   | _=>exact absurd (show false=true from hs) Bool.false_ne_true
 | _=>cases y <;> exact absurd (show false=true from hs) Bool.false_ne_true
theorem y7:OpR X (compareOp .Lt) (rI0 fun i j=>.bl (decide (i<j))):=Qe fun _ _ _ _ _ _ _ q=>lt_int q
theorem BQ:OpR X (compareOp .LtE) (rI0 fun i j=>.bl (decide (i<=j))):=Qe fun _ _ _ _ _ _ _ q=>le_int q
theorem RM:OpR X (compareOp .Gt) (rI0 fun i j=>.bl (decide (j<i))):=Qe fun _ _ _ _ _ _ _ q=>gt_int q
theorem bc (b:Expr) {op:CmpOp} (h:op≠.In:=by decide) (h2:op≠.NotIn:=by decide):behindInMarks op b=false:=by
 have e1:(op == CmpOp.In)=false:=by cases op <;> first|rfl|exact absurd rfl h
 have e2:(op == CmpOp.NotIn)=false:=by cases op <;> first|rfl|exact absurd rfl h2
 cases b <;> simp [behindInMarks,e1,e2]
theorem CW {op:CmpOp} {r:R2} (ho:OpR X (compareOp op) r) (ha:PE X a ta) (hb:PE X b tb) (hm:behindInMarks op b=false):PE X (.Compare a [op] [b] pos) (tOp r ta tb):=by
 intro pins s σ H Q I h;exact wpAny_Compare1 (PJ ha hb I h fun v u s2 x y H2 I2 rx ry q=>ho pins s2 σ H2 x y v u Q I2 rx ry q) hm
def Fs (t:TE):TT:=fun σ H Q=>t σ H fun x H'=>∃ k,x=.bl k/\Q k H'
theorem aX {op:CmpOp} {r:R2} (ho:OpR X (compareOp op) r) (ha:PE X a ta) (hb:PE X b tb) (hm:behindInMarks op b=false):PT X (.Compare a [op] [b] pos) (Fs (tOp r ta tb)):=by
 intro pins s σ H Q I h;refine wpAny_isTrue_Compare1 (bx (ha pins s σ H _ I h) fun v s1 x H1 I1 r1 q1=>bx (hb pins s1 σ H1 _ I1 q1) fun u s2 y H2 I2 r2 q2 =>
   bx (ho pins s2 σ H2 x y v u _ I2 r1 r2 q2) fun c s3 z H3 I3 r3 ⟨k,e,q3⟩=>?_) hm
 subst e;cases r3;exact wpAny_truthy_bool ⟨H3,I3,q3⟩
def BF (r r':R2) (ta tb tc:TE):TE:=fun σ H Q=>ta σ H fun x H1=>tb σ H1 fun y H2=>r x y H2 fun z H3=>∃ k,z=.bl k /\
 (if k=true then tc σ H3 fun w' H4=>r' y w' H4 Q else Q (.bl false) H3)
theorem P4 {op op':CmpOp} {r r':R2} (ho:OpR X (compareOp op) r) (ho':OpR X (compareOp op') r') (ha:PE X a ta) (hb:PE X b tb) (hc:PE X c tc)
   (hm:lastMarks [op,op'] [b,c]=false:=by with_unfolding_all rfl):PE X (.Compare a [op,op'] [b,c] pos) (BF r r' ta tb tc):=by
 intro pins s σ H Q I h;refine Compare_chain (bx (ha pins s σ H _ I h) fun v s1 x H1 I1 r1 q1=>chain_link (bx (hb pins s1 σ H1 _ I1 q1) fun u s2 y H2 I2 r2 q2 =>
   bx (ho pins s2 σ H2 x y v u _ I2 r1 r2 q2) fun d s3 z H3 I3 r3 ⟨k,e,q3⟩=>?_)) hm
 subst e;cases r3;refine wpAny_truthy_bool ?_;cases k with
 | false=>exact ite_ff ⟨.bl false,H3,I3,rfl,q3⟩
 | true=>exact ite_tt (chain_last (thn (hc pins s3 σ H3 _ I3 q3) fun w' s4 ⟨z',H4,I4,r4,q4⟩=>ho' pins s4 σ H4 y z' u w' Q I4 r2 r4 q4))
theorem Ho {op op':CmpOp} {r r':R2} (ho:OpR X (compareOp op) r) (ho':OpR X (compareOp op') r') (ha:PE X a ta) (hb:PE X b tb) (hc:PE X c tc)
   (hm:lastMarks [op,op'] [b,c]=false:=by with_unfolding_all rfl):PT X (.Compare a [op,op'] [b,c] pos) (Fs (BF r r' ta tb tc)):=by
 intro pins s σ H Q I h;refine isTrue_chain (bx (ha pins s σ H _ I h) fun v s1 x H1 I1 r1 q1=>test_link (bx (hb pins s1 σ H1 _ I1 q1) fun u s2 y H2 I2 r2 q2 =>
   bx (ho pins s2 σ H2 x y v u _ I2 r1 r2 q2) fun d s3 z H3 I3 r3 ⟨k,e,q3⟩=>?_)) hm
 subst e;cases r3;refine wpAny_truthy_bool ?_;cases k with
 | false =>
   obtain ⟨k',e',q'⟩:=q3;cases e';exact ite_ff ⟨H3,I3,q'⟩
 | true =>
   refine ite_tt (test_last (thn (hc pins s3 σ H3 _ I3 q3) fun w' s4 ⟨z',H4,I4,r4,q4⟩=>thn (ho' pins s4 σ H4 y z' u w' _ I4 r2 r4 q4) fun d' s5 ⟨z2,H5,I5,r5,k2,e2,q5⟩=>?_));subst e2;cases r5;exact wpAny_truthy_bool ⟨H5,I5,q5⟩
def Kz (K:PySem.W.Frag) (x:V) (H:Hp) (k:Bool):Prop :=
 match x with
 | .non=>k=false
 | .bl b=>k=b
 | .int i=>k=(i != 0)
 | .str y=>y.length<=sizeLine/\k=((y.length:Int) != 0)
 | .byt y=>y.size<=sizeLine/\k=((y.size:Int) != 0)
 | .ref p=>(∃ xs,SqL K H p xs/\k=!xs.isEmpty)\/(∃ xs,SqT K H p xs/\k=!xs.isEmpty)\/∃ kvs,H p=some (.dK kvs)/\k=!kvs.isEmpty
 | _=>False
theorem Mi {κ:Type} {kvs:List (κ × V)} {vs:List (κ × Value)} (r:KV kvs vs):(!vs.isEmpty)=!kvs.isEmpty:=by
 cases r <;> rfl
theorem BE {xs:List V} {its:List Value} (r:Vals xs its):(!its.toArray.isEmpty)=!xs.isEmpty:=by
 cases r <;> simp
theorem ue:(sizeLine:Nat)<2^63:=by rw [sizeLine_eq];decide
theorem TY:UV X (fun x H Q=>∃ k,Kz X.K x H k/\Q k H):=by
 intro pins s σ H x v Q I rx h;obtain ⟨k,e,q⟩:=h;have hl:=ue;have hs:sizeLine=16777216:=sizeLine_eq;cases x with
 | non =>
   cases rx;have e':k=false:=e;subst e';exact truthy_none ⟨H,I,q⟩
 | bl b =>
   cases rx;have e':k=b:=e;subst e';exact wpAny_truthy_bool ⟨H,I,q⟩
 | int i =>
   obtain ⟨t,rfl⟩:=rx;have e':k=(i != 0):=e;subst e';exact PySem.P.truthy_int ⟨H,I,q⟩
 | str y =>
   obtain ⟨t,rfl⟩:=rx;obtain ⟨hy,e'⟩:y.length<=sizeLine/\k=((y.length:Int) != 0):=e;subst e';exact PySem.P.truthy_str (by omega) ⟨H,I.tok _,q⟩
 | byt y =>
   obtain ⟨t,rfl⟩:=rx;obtain ⟨hy,e'⟩:y.size<=sizeLine/\k=((y.size:Int) != 0):=e;subst e';exact PySem.W.truthy_bytes (by omega) ⟨H,I.tok _,q⟩
 | ref p =>
   cases rx;have e':(∃ xs,SqL X.K H p xs/\k=!xs.isEmpty)\/(∃ xs,SqT X.K H p xs/\k=!xs.isEmpty)\/∃ kvs,H p=some (.dK kvs)/\k=!kvs.isEmpty:=e;rcases e' with ⟨xs,hx,e'⟩|⟨xs,hx,e'⟩|⟨kvs,hx,e'⟩
   . subst e';obtain ⟨its,r,pl,hz⟩:=I.list hx;have hlen:=r.length;exact wpAny_truthy_list pl.isList (by simp only [List.size_toArray];omega) ⟨H,I.tok _,by rw [BE r];exact q⟩
   . subst e';obtain ⟨its,r,pl,hz⟩:=I.tuple hx;have hlen:=r.length;exact truthy_tuple pl (by simp only [List.size_toArray];omega) ⟨H,I.tok _,by rw [BE r];exact q⟩
   . subst e';obtain ⟨hz,hS,vs,r,m⟩:kvs.length<=sizeLine/\(p == sysModules)=false/\∃ vs,KV kvs vs/\s.heap.DictOf (dH X.prog X.w) p vs:=I.hok p _ hx;have hlen:kvs.length=vs.length:=Paired.length r;exact wpAny_truthy_dict hS m (by omega) ⟨H,I.tok _,by rw [Mi r];exact q⟩
 | _=>exact (show False from e).elim
theorem rh (ha:PE X a ta) (he:∀ whole,isTrue a X.env whole=(do let v <- whole;standAt a.pos;holding [v] (truthy v))) :
   PT X a (fun σ H Q=>ta σ H fun x H'=>∃ k,Kz X.K x H' k/\Q k H'):=by
 intro pins s σ H Q I h;exact isTrue_plain (bx (ha pins s σ H _ I h) fun v s1 x H1 I1 r1 q1=>TY pins s1 σ H1 x v Q I1 r1 q1) (he _)
theorem qo {x:V} {us:List Value} (r:Vals [x] us):∃ u,us=[u]/\RelV x u:=by
 cases r with
 | cons r1 r2=>cases r2;exact ⟨_,rfl,r1⟩
theorem K6 {x y:V} {us:List Value} (r:Vals [x,y] us):∃ u w',us=[u,w']/\RelV x u/\RelV y w':=by
 cases r with
 | cons r1 r2 =>
   cases r2 with
   | cons r3 r4=>cases r4;exact ⟨_,_,rfl,r1,r3⟩
theorem Ei (hc:X.calm=true):j9 X (.builtin "max") (fun xs H Q=>∃ i j,xs=[.int i,.int j]/\Q (.int (if j > i then j else i)) H):=by
 intro pins s σ H xs us Q I r h;obtain ⟨i,j,rfl,q⟩:=h;obtain ⟨u,w',rfl,⟨t,rfl⟩,⟨t',rfl⟩⟩:=K6 r;refine max_two_ints (I.ok.hd hc) fun h' tk k=>⟨_,H,I.kept k,?_,q⟩;by_cases hj:j > i
 . rw [if_pos hj,if_pos hj];exact ⟨_,rfl⟩
 . rw [if_neg hj,if_neg hj];exact ⟨_,rfl⟩
theorem Ec:j9 X (.type "int") (fun xs H Q=>(∃ i,xs=[.int i]/\Q (.int i) H)\/∃ k,xs=[.bl k]/\Q (.int (if k then 1 else 0)) H):=by
 intro pins s σ H xs us Q I r h;rcases h with ⟨i,rfl,q⟩|⟨k,rfl,q⟩
 . obtain ⟨u,rfl,t,rfl⟩:=qo r;exact call_int_int ⟨.int i,H,I,⟨_,rfl⟩,q⟩
 . obtain ⟨u,rfl,r1⟩:=qo r;cases r1;exact call_int_bool ⟨.int (if k then 1 else 0),H,I.tok _,⟨_,rfl⟩,q⟩
end
end L2
namespace L2
open PySem PySem.Spec PyProof.Rows
structure ObjM (h:Heap) (x dx C:Addr) (mA:Str->Option Value):Prop where
 obj:h.get? x=some (PySem.W.instObj C dx)
 ns:h.Ns1 dx mA
 ne:dx≠x
theorem NM {h:Heap} {dx:Addr} {mA:Str->Option Value} (n:h.Ns1 dx mA):∃ od,h.get? dx=some od/\∀ name,PySem.W.lookIn name od=some (mA name):=by
 obtain ⟨o,es,ep,ho,hd,hk,_,hm⟩:=n;refine ⟨o,ho,fun name=>?_⟩;have e:=hm name;unfold nsFind findBy at e;rw [<- Array.find?_toList] at e;unfold PySem.W.lookIn;rw [hd];dsimp only;split
 . rename_i y q
   rw [q] at e;exact congrArg some e
 . rename_i q
   rw [q] at e;have a:es.toList.any (·.refKey)=false:=by
     rw [List.any_eq_false];intro y hy;obtain ⟨z,t,hkey⟩:=hk y (Array.mem_toList_iff.mp hy);simp [DictEntry.refKey,hkey]
   have a':¬ es.toList.any (·.refKey)=true:=by rw [a];exact Bool.false_ne_true
   rw [if_neg a'];exact congrArg some e
theorem ObjM.look {h:Heap} {x dx C:Addr} {mA:Str->Option Value} (I:ObjM h x dx C mA):∃ od,PySem.W.InstAt h x (PySem.W.instObj C dx) C (some od)/\∀ name,PySem.W.lookIn name od=some (mA name) :=
 let ⟨od,ho,hl⟩:=NM I.ns
 ⟨od,⟨I.obj,rfl,rfl,ho⟩,hl⟩
section
variable {prog:Program} {w:World} {A:Around} {E:Value->Shared->Prop} {s:Shared} {K:PySem.W.Frag} {x dx C f:Addr} {mA:Str->Option Value} {name:Str} {v:Value}
theorem So {expr:Bool} {Q:Value->Shared->Prop} (X:K.In s.heap) (I:ObjM s.heap x dx C mA) (hg:PySem.W.plainGet K C name=true) (hh:PySem.W.hasDictIn K C=true)
   (ha:PySem.W.findIn K (.ref C) name=some none) (hv:mA name=some v) (hv':PySem.W.handedIn v=true) (h:Q v { s with toks:=s.toks+1 }) :
   wpAny (model prog w) A (getAttr (.ref x) name expr) Q E s:=by
 obtain ⟨od,J,hl⟩:=I.look;exact PySem.W.get_value X J (PySem.W.plainGet_of hg).1 (PySem.W.findObj_own hh ha rfl (by rw [hl,hv])) hv' h
theorem R0 {ns:List Str} {Q:Unit->Shared->Prop} (X:K.In s.heap) (I:ObjM s.heap x dx C mA)
   (hs:PySem.W.findIn K (.ref C) "__setattr__"=some (some (.builtin "object.__setattr__"))) (hp:PySem.W.plainOver K C=true) (ht:PySem.W.takerIn K C name=some none) (hh:PySem.W.hasDictIn K C=true)
   (hw:PySem.Within mA ns) (hsz:ns.length<=sizeLine)
   (h:∀ h',ObjM h' x dx C (fun y=>if y=name then some v else mA y)->Heap.SameBut dx s.heap h'->Q () { s with heap:=h',toks:=s.toks+2 }) :
   wpAny (model prog w) A (setAttr (.ref x) name v) Q E s:=by
 obtain ⟨od,J,hl⟩:=I.look;refine PySem.W.set_plain X J hs (PySem.W.osa_open (s:={ s with toks:=s.toks+1 }) (r:=none) X J hp ht fun b=>?_);obtain ⟨cd,hc,hd'⟩:=PySem.W.any_some hh;have hx:s.heap.get? x=some ⟨.ref C,some dx,.plain,#[]⟩:=I.obj;refine wpAny_bind (wpAny_pure (wpAny_bind (wpAny_bind (wpAny_loadPart hx (wpAny_bind (PySem.W.Looks.here (s:={ s with toks:=s.toks+1 }) (PySem.W.looks_clsIn X hc) ?_))))));rw [hd'];refine wpAny_pure (a:=some dx) (wpAny_bind (wpAny_pure (wpAny_bind ?_)));refine wpAny_nsSet1 (s:={ s with toks:=s.toks+1 }) I.ns fun h' hn2 hs2=>?_;obtain ⟨oD,esD,epD,hoD,hdD,hcD⟩:=hn2.count (PySem.Within.cons name v hw);refine wpAny_bind (wpAny_lookBehind hoD (by rw [hdD];exact pastItsLine_dict (Nat.le_trans hcD (by rw [List.length_cons];omega))) ?_);exact wpAny_pure (h _ ⟨(hs2.2 _ (Ne.symm I.ne)).trans I.obj,hn2,I.ne⟩ hs2)
theorem Qp {R:Result->Shared->Prop} {vs:List Value} {kw:List (Str × Value)} (X:K.In s.heap) (hm:PySem.W.makesIn K C=true)
   (hi:PySem.W.findIn K (.ref C) "__init__"=some (some (.ref f))) (hf:PySem.W.typeIn K (.ref f)=some (.type "function"))
   (h:codeAny (model prog w) (A.under (.builtin "type.__call__" ⟨.ref C::vs,kw⟩)) (.call (.ref f) ⟨.ref (s.heap.objs.size+1)::vs,kw⟩) (PySem.W.InitBack (s.heap.objs.size+1) R)
     { s with heap:=(s.heap.push PySem.W.emptyDict).push (PySem.W.instObj C s.heap.objs.size) }) :
   codeAny (model prog w) A (.call (.ref C) ⟨vs,kw⟩) R s:=by
 obtain ⟨hh,g,d,t,os⟩:=s;exact PySem.W.make_core (PySem.W.makes_of X hm) (PySem.W.looks_findIn X hi) (fun self=>PySem.W.bind_fn X self hf) (.inl rfl) h
end
def ar (f:Str) (v:V):List (Str × V)->List (Str × V)
 | []=>[(f,v)]
 | (g,x)::r=>if g=f then (g,v)::r else (g,x)::ar f v r
theorem aE (f g:Str) (v:V):∀ fs:List (Str × V),(ar f v fs).lookup g=if g=f then some v else fs.lookup g
 | []=>by
   show List.lookup g [(f,v)]=_;by_cases h:g=f
   . have hb:(g == f)=true:=beq_iff_eq.mpr h;simp only [List.lookup,hb,if_pos h]
   . have hb:(g == f)=false:=beq_eq_false_iff_ne.mpr h;simp only [List.lookup,hb,if_neg h]
 | (k,x)::r=>by
   have ih:=aE f g v r;rw [show ar f v ((k,x)::r)=(if k=f then (k,v)::r else (k,x)::ar f v r) from rfl];by_cases hk:k=f
   . rw [if_pos hk];by_cases h:g=k
     . have hb:(g == k)=true:=beq_iff_eq.mpr h;simp only [List.lookup,hb,if_pos (h.trans hk)]
     . have hb:(g == k)=false:=beq_eq_false_iff_ne.mpr h;simp only [List.lookup,hb,if_neg (fun e:g=f=>h (e.trans hk.symm))]
   . rw [if_neg hk];by_cases h:g=k
     . have hb:(g == k)=true:=beq_iff_eq.mpr h;simp only [List.lookup,hb,if_neg (fun e:g=f=>hk (h.symm.trans e))]
     . have hb:(g == k)=false:=beq_eq_false_iff_ne.mpr h;simp only [List.lookup,hb];exact ih
theorem xg (f:Str) (v:V):∀ fs:List (Str × V),f∈(ar f v fs).map (·.1)/\∀ g,g∈fs.map (·.1)->g∈(ar f v fs).map (·.1)
 | []=>⟨by simp [ar],fun g h=>by simp at h⟩
 | (k,x)::r=>by
   obtain ⟨i1,i2⟩:=xg f v r;rw [show ar f v ((k,x)::r)=(if k=f then (k,v)::r else (k,x)::ar f v r) from rfl];by_cases hk:k=f
   . rw [if_pos hk];subst hk;exact ⟨by simp,fun g h=>by simpa using h⟩
   . rw [if_neg hk];refine ⟨?_,fun g h=>?_⟩
     . rw [List.map_cons];exact List.mem_cons_of_mem _ i1
     . rw [List.map_cons] at h ⊢;rcases List.mem_cons.mp h with e|e
       . exact List.mem_cons.mpr (.inl e)
       . exact List.mem_cons_of_mem _ (i2 g e)
theorem zH (f:Str) (v:V):∀ fs:List (Str × V),(ar f v fs).length<=fs.length+1
 | []=>by simp [ar]
 | (k,x)::r=>by
   have ih:=zH f v r;rw [show ar f v ((k,x)::r)=(if k=f then (k,v)::r else (k,x)::ar f v r) from rfl];by_cases hk:k=f
   . rw [if_pos hk,List.length_cons,List.length_cons];omega
   . rw [if_neg hk,List.length_cons,List.length_cons];omega
theorem RelO.some_of {v:V} {o:Option Value} (r:RelO (some v) o):∃ u,o=some u/\RelV v u:=by
 cases o with
 | none=>exact (show False from r).elim
 | some u=>exact ⟨u,rfl,r⟩
theorem Og {v:V} {u:Value} (r:RelV v u):PySem.W.handedIn u=true:=by
 cases v with
 | non=>cases (show u=Value.none from r);rfl
 | bl b=>cases (show u=Value.bool b from r);rfl
 | int i=>obtain ⟨t,e⟩:=(show ∃ t,u=Value.int i t from r);cases e;rfl
 | str x=>obtain ⟨t,e⟩:=(show ∃ t,u=Value.str x t from r);cases e;rfl
 | byt b=>obtain ⟨t,e⟩:=(show ∃ t,u=Value.bytes b t from r);cases e;rfl
 | flt b=>obtain ⟨t,e⟩:=(show ∃ t,u=Value.float b t from r);cases e;rfl
 | ref a=>cases (show u=Value.ref a from r);rfl
 | ty n=>cases (show u=Value.type n from r);rfl
section
variable {P:Program} {w:World} {H H':Hp} {h h':Heap} {a C dx:Addr} {fs fs':List (Str × V)}
theorem C7 (hok:HOk P w H h) (e:H a=some (.ins C dx fs)):∃ mA,ObjM h a dx C mA/\(∀ f,RelO (fs.lookup f) (mA f))/\PySem.Within mA (fs.map (·.1))/\fs.length<=1000/\H dx=some (.own a):=by
 obtain ⟨d,z,ne,ob,mA,n,r,q⟩:=(show ObjOk P w H h a (.ins C dx fs) from hok a _ e);exact ⟨mA,⟨ob,n,ne⟩,r,q,z,d⟩
end
structure Cls (K:PySem.W.Frag) (C:Addr):Prop where
 pg:PySem.W.plainGet K C Str.empty=true
 hd:PySem.W.hasDictIn K C=true
 po:PySem.W.plainOver K C=true
 sa:PySem.W.findIn K (.ref C) "__setattr__"=some (some (.builtin "object.__setattr__"))
theorem Cls.get {K:PySem.W.Frag} {C:Addr} (c:Cls K C) (f:Str):PySem.W.plainGet K C f=true:=c.pg
def NoAttr (K:PySem.W.Frag) (C:Addr) (f:Str):Prop:=PySem.W.findIn K (.ref C) f=some none
theorem NoAttr.taker {K:PySem.W.Frag} {C:Addr} {f:Str} (n:NoAttr K C f):PySem.W.takerIn K C f=some none:=by
 unfold PySem.W.takerIn;rw [show PySem.W.findIn K (.ref C) f=some none from n]
 rfl
section
variable {X:Cx} {pins:List (Addr × Obj)} {σ:St} {H:Hp} {s:Shared} {a C dx:Addr} {fs:List (Str × V)} {f:Str} {v:V} {A:Around} {E:Value->Shared->Prop}
theorem Mp {b:Bool} {Q:Value->Shared->Prop} (I:Inv X pins σ H s) (e:H a=some (.ins C dx fs)) (c:Cls X.K C) (n:NoAttr X.K C f) (l:fs.lookup f=some v)
   (h:∀ u s',Inv X pins σ H s'->RelV v u->Q u s'):wpAny (model X.prog X.w) A (getAttr (.ref a) f b) Q E s:=by
 obtain ⟨mA,O,r,_,_,_⟩:=C7 I.hok e;obtain ⟨u,hu,ru⟩:=RelO.some_of (v:=v) (o:=mA f) (by rw [<- l];exact r f);exact So I.kIn O (c.get f) c.hd n hu (Og ru) (h u _ (I.tok _) ru)
theorem Lz {y:V} {u:Value} {Q:Unit->Shared->Prop} (I:Inv X pins σ H s) (e:H a=some (.ins C dx fs)) (c:Cls X.K C) (n:NoAttr X.K C f) (hl:fs.length<1000) (ry:RelV y u)
   (h:∀ s',Inv X pins σ (upd H a (.ins C dx (ar f y fs))) s'->Q () s'):wpAny (model X.prog X.w) A (setAttr (.ref a) f u) Q E s:=by
 obtain ⟨mA,O,r,wi,_,ho⟩:=C7 I.hok e;have hz:(fs.map (·.1)).length<=sizeLine:=by rw [List.length_map,sizeLine_eq];omega
 refine R0 I.kIn O c.sa c.po n.taker c.hd wi hz fun h' O' sb=>h _ ?_;have hd:∃ o,h'.get? dx=some o:=let ⟨o,_,_,e',_⟩:=O'.ns;⟨o,e'⟩;refine I.write (x:=a) (e:=dx) (by rw [e];exact True.intro) (.inr ho) (fun b q hb z=>(sb.2 b hb).trans z) hd ?_;refine ⟨by rw [ao O.ne];exact ho,?_,O.ne,O'.obj,_,O'.ns,fun g=>?_,fun g hg=>?_⟩
 . have:=zH f y fs;omega
 . show RelO ((ar f y fs).lookup g) (if g=f then some u else mA g);rw [aE];by_cases q:g=f
   . rw [if_pos q,if_pos q];exact ry
   . rw [if_neg q,if_neg q];exact r g
 . by_cases q:g=f
   . rw [q];exact (xg f y fs).1
   . refine (xg f y fs).2 g (wi g fun z=>hg ?_);show (if g=f then some u else mA g)=none;rw [if_neg q];exact z
theorem Inv.made (I:Inv X pins σ H s):Inv X pins σ (upd (upd H s.heap.objs.size (.own (s.heap.objs.size+1))) (s.heap.objs.size+1) (.ins C s.heap.objs.size []))
   { s with heap:=(s.heap.push PySem.W.emptyDict).push (PySem.W.instObj C s.heap.objs.size) }:=by
 have e1:(s.heap.push PySem.W.emptyDict).get? s.heap.objs.size=some PySem.W.emptyDict:=Heap.get?_push_size s.heap rfl;have e2:((s.heap.push PySem.W.emptyDict).push (PySem.W.instObj C s.heap.objs.size)).get? (s.heap.objs.size+1)=some (PySem.W.instObj C s.heap.objs.size):=by
   have:=Heap.get?_push_size (s.heap.push PySem.W.emptyDict) (o:=PySem.W.instObj C s.heap.objs.size) rfl
   rwa [Heap.size_push] at this
 have e3:(s.heap.push PySem.W.emptyDict).Ns s.heap.objs.size (fun _=>none):=⟨PySem.W.emptyDict,#[],_,e1,rfl,(fun e he=>absurd he (by simp)),fun _=>rfl⟩;have I1:=I.laid (a:=s.heap.objs.size) (o:=.own (s.heap.objs.size+1)) (h':=s.heap.push PySem.W.emptyDict) (t':=s.toks) (fun b u q=>Heap.get?_push_of_some _ q) (Nat.le_refl _) ⟨_,e1⟩;refine I1.laid (a:=s.heap.objs.size+1) (o:=.ins C s.heap.objs.size []) (t':=s.toks) (fun b u q=>Heap.get?_push_of_some _ q) (Nat.le_of_eq (Heap.size_push _ _)) ?_;have ne:s.heap.objs.size≠s.heap.objs.size+1:=Nat.ne_of_lt (Nat.lt_succ_self _);refine ⟨by rw [ao ne,ah],Nat.zero_le _,ne,e2,fun _=>none,(Heap.Ns1.of_empty e3).at fun o q=>Heap.get?_push_of_some _ q,fun _=>True.intro,fun y hy=>absurd rfl hy⟩
theorem Sd {prog:Program} {w:World} {env:Env} {e:Expr} {f:Str} {pos:Pos} {s:Shared} {Q:Value->Shared->Prop} (hb:attributeBase e f env (eval e env)=eval e env)
   (h:wpAny (model prog w) A (eval e env) (fun o s₁=>wpAny (model prog w) A (getAttr o f true) Q E s₁) E s):wpAny (model prog w) A (eval (.Attribute e f pos) env) Q E s :=
 Attribute_any_ h (by rw [arm_eval_Attribute,hb])
end
def Qr (K:PySem.W.Frag) (ta:TE) (f:Str):TE:=fun σ H Q=>ta σ H fun x H1=>∃ a C dx fs v,x=.ref a/\H1 a=some (.ins C dx fs)/\Cls K C/\NoAttr K C f/\fs.lookup f=some v/\Q v H1
def O3 (K:PySem.W.Frag) (ta tv:TE) (f:Str):TS:=fun D σ H=>tv σ H fun y H1=>ta σ H1 fun x H2=>∃ a C dx fs,x=.ref a/\H2 a=some (.ins C dx fs)/\Cls K C/\NoAttr K C f/\fs.length<1000 /\
 D.nx σ (upd H2 a (.ins C dx (ar f y fs)))
section
variable {X:Cx} {o e value:Expr} {f:Str} {pos pos' tpos:Pos} {ta tv:TE}
theorem dR (he:PE X e ta) (hb:attributeBase e f X.env (eval e X.env)=eval e X.env):PE X (.Attribute e f pos) (Qr X.K ta f):=by
 intro pins s σ H Q I h;refine Sd hb (bx (he pins s σ H _ I h) fun u s1 x H1 I1 rx ⟨a,C,dx,fs,v,ex,ea,c,n,l,q⟩=>?_);subst ex;obtain rfl:u=Value.ref a:=rx;exact Mp I1 ea c n l fun u' s2 I2 ru=>⟨v,H1,I2,ru,q⟩
theorem oW (ha:PE X o ta) (hv:PE X value tv) (hs:swapsWith value (some (.Attribute o f pos')) pos.line X.env=pure false):PS X (.Assign [.Attribute o f pos'] value pos) (O3 X.K ta tv f):=by
 intro pins s σ H D I h;refine plainObj_wpAny_Assign_Attribute (bx (hv pins s σ H _ I h) fun u s1 y H1 I1 ry q=>bx (ha pins s1 σ H1 _ I1 q) fun ov s2 x H2 I2 rx ⟨a,C,dx,fs,ex,ea,c,n,l,q2⟩=>?_) hs;subst ex;obtain rfl:ov=Value.ref a:=rx;exact Lz I2 ea c n l ry fun s3 I3=>⟨σ,_,I3,q2⟩
end
section
variable {X:Cx} {pins:List (Addr × Obj)} {σ:St} {H:Hp} {s:Shared} {A:Around} {E:Value->Shared->Prop} {Q:Value->Shared->Prop} {c:Value} {b:Bool}
inductive TyOf (K:PySem.W.Frag) (H:Hp):V->Value->Prop where
 | non:TyOf K H .non (.type "NoneType")
 | bl (x:Bool):TyOf K H (.bl x) (.type "bool")
 | int (i:Int):TyOf K H (.int i) (.type "int")
 | str (x:Str):TyOf K H (.str x) (.type "str")
 | flt (x:UInt64):TyOf K H (.flt x) (.type "float")
 | lst {a:Addr} {xs:List V} (e:H a=some (.lst xs)):TyOf K H (.ref a) (.type "list")
 | frz {a:Addr} {o:Obj} {xs:List V} (e:H a=some (.frz o (.lst xs))):TyOf K H (.ref a) (.type "list")
 | tup {a:Addr} {xs:List V} (e:H a=some (.tup xs)):TyOf K H (.ref a) (.type "tuple")
 | dK {a:Addr} {kvs:List (Key × V)} (e:H a=some (.dK kvs)):TyOf K H (.ref a) (.type "dict")
 | dT {a:Addr} {kvs:List (List Key × V)} (e:H a=some (.dT kvs)):TyOf K H (.ref a) (.type "dict")
 | ins {a C dx:Addr} {fs:List (Str × V)} (e:H a=some (.ins C dx fs)) (cl:Cls K C) (ha:PySem.W.findIn K (.ref C) "__class__"=some (some (.builtin "object.__class__")))
     (hn:PySem.W.specialIn K (.builtin "object.__class__") "__get__"=some (some (.builtin "getset_descriptor.__get__"))) (htk:PySem.W.takesIn K (.builtin "object.__class__")=some true)
     (hm:PySem.W.mroIn K C (.type "object")=some true):TyOf K H (.ref a) (.ref C)
theorem ML {x:V} {u t:Value} (I:Inv X pins σ H s) (rx:RelV x u) (ty:TyOf X.K H x t) (e:PySem.W.kitOne X.K t c=some b) (h:∀ tk,Q (.bool b) { s with toks:=tk }) :
   wpAny (model X.prog X.w) A (call (.builtin "isinstance") [u,c]) Q E s:=by
 cases ty with
 | non=>cases (show u=Value.none from rx);exact PySem.W.kia_one PySem.W.kitx_none I.kIn True.intro e (fun z=>nomatch z) h
 | bl y=>cases (show u=Value.bool y from rx);exact PySem.W.kia_one PySem.W.kitx_bool I.kIn True.intro e (fun z=>nomatch z) h
 | int i=>obtain ⟨t,q⟩:=(show ∃ t,u=Value.int i t from rx);cases q;exact PySem.W.kia_one PySem.W.kitx_int I.kIn True.intro e (fun z=>nomatch z) h
 | str y=>obtain ⟨t,q⟩:=(show ∃ t,u=Value.str y t from rx);cases q;exact PySem.W.kia_one PySem.W.kitx_str I.kIn True.intro e (fun z=>nomatch z) h
 | flt y=>obtain ⟨t,q⟩:=(show ∃ t,u=Value.float y t from rx);cases q;exact PySem.W.kia_one PySem.W.kitx_float I.kIn True.intro e (fun z=>nomatch z) h
 | @lst a xs ea =>
   cases (show u=Value.ref a from rx);obtain ⟨_,_,n,_,h1⟩:=(show ObjOk X.prog X.w H s.heap a (.lst xs) from I.hok a _ ea);exact PySem.W.kia_one PySem.W.kitx_list I.kIn ⟨_,h1,rfl⟩ e (fun z=>nomatch z) h
 | @frz a ob xs ea =>
   cases (show u=Value.ref a from rx);obtain ⟨_,_,_,n,_,h1⟩:=(show ObjOk X.prog X.w H s.heap a (.frz ob (.lst xs)) from I.hok a _ ea);exact PySem.W.kia_one PySem.W.kitx_list I.kIn ⟨_,h1,rfl⟩ e (fun z=>nomatch z) h
 | @tup a xs ea =>
   cases (show u=Value.ref a from rx);obtain ⟨_,_,_,p⟩:=(show ObjOk X.prog X.w H s.heap a (.tup xs) from I.hok a _ ea);obtain ⟨o,h1,h2,_⟩:=p;exact PySem.W.kia_one PySem.W.kitx_tuple I.kIn ⟨o,h1,h2⟩ e (fun z=>nomatch z) h
 | @dK a kvs ea =>
   cases (show u=Value.ref a from rx);obtain ⟨_,_,vs,_,p⟩:=(show ObjOk X.prog X.w H s.heap a (.dK kvs) from I.hok a _ ea);obtain ⟨o,es,ep,h1,h2,_⟩:=p;exact PySem.W.kia_one PySem.W.kitx_dict I.kIn ⟨o,h1,h2.1⟩ e (fun z=>nomatch z) h
 | @dT a kvs ea =>
   cases (show u=Value.ref a from rx);obtain ⟨_,_,xs,_,o,es,ep,h1,h2,_⟩:=(show ObjOk X.prog X.w H s.heap a (.dT kvs) from I.hok a _ ea);exact PySem.W.kia_one PySem.W.kitx_dict I.kIn ⟨o,h1,h2.1⟩ e (fun z=>nomatch z) h
 | @ins a C dx fs ea cl ha hn htk hm =>
   cases (show u=Value.ref a from rx);obtain ⟨mA,O,_⟩:=C7 I.hok ea;obtain ⟨od,J,_⟩:=O.look;exact PySem.W.kia_one (PySem.W.kitx_own (cl.get _) cl.hd ha hn htk hm) I.kIn J e (fun z=>nomatch z) h
end
end L2
namespace L2
open PySem PySem.Spec PyProof.Rows
structure Room (k:Nat) (A:Around):Prop where
 hd:A.handled=none
 dp:A.depth+3*k+5<recursionLimit
 un:A.units+16*k+200<cLine
theorem Room.mono {j k:Nat} {A:Around} (r:Room k A) (h:j<=k):Room j A:=⟨r.hd,by have:=r.dp;omega,by have:=r.un;omega⟩
theorem Room.deeper {k:Nat} {A:Around} (r:Room (k+1) A) (env:Env):Room k (A.deeper env) :=
 ⟨r.hd,by have:=r.dp;show A.depth+1+3*k+5<_;omega,by have:=r.un;show A.units+3+16*k+200<_;omega⟩
theorem ME {A:Around} {C:Addr} {us:List Value} {kw:List (Str × Value)}:(A.under (.builtin "type.__call__" ⟨.ref C::us,kw⟩)).depth=A.depth+1:=by
 first|rfl|simp [Around.under,Code.weight,Code.isCreation,Code.isGuard,Code.isCaller,Code.frames,Code.isFrame,guardIds]
theorem LZ {A:Around} {C:Addr} {us:List Value} {kw:List (Str × Value)}:(A.under (.builtin "type.__call__" ⟨.ref C::us,kw⟩)).units=A.units+1:=by
 first|rfl|simp [Around.under,Code.cUnits,Code.frames,Code.isFrame]
theorem Room.make {k:Nat} {A:Around} (r:Room (k+1) A) (C:Addr) (us:List Value) (kw:List (Str × Value)):Room k (A.under (.builtin "type.__call__" ⟨.ref C::us,kw⟩)) :=
 ⟨r.hd,by have:=r.dp;rw [ME];omega,by have:=r.un;rw [LZ];omega⟩
theorem Room.depth {k:Nat} {A:Around} (r:Room k A):A.depth<recursionLimit:=by have:=r.dp;omega
theorem Room.units {k:Nat} {A:Around} (r:Room k A):A.units+64<cLine:=by have:=r.un;omega
def tNil:TA:=fun _ H Q=>Q [] H
def KD (ta:TE) (tr:TA):TA:=fun σ H Q=>ta σ H fun x H1=>tr σ H1 fun xs H2=>Q (x::xs) H2
section
variable {X:Cx} {e:Expr} {es:List Expr} {te:TE} {t:TA} {pos:Pos}
theorem ak:PA X [] tNil:=fun _ _ _ _ H Q I h=>Calls.spliced_nil ⟨[],H,I,.nil,h⟩
theorem ag (ha:PE X e te) (hr:PA X es t) (hs:starEach (e::es) X.env=(false,eval e X.env)::starEach es X.env:=by rfl):PA X (e::es) (KD te t):=by
 intro pos pins s σ H Q I h;rw [hs];show wpAny _ _ (spliced ((false,eval e X.env)::backTo pos (starEach es X.env))) _ _ s;refine Calls.spliced_cons (bx (ha pins s σ H _ I h) fun u s1 x H1 I1 r1 q1=>?_);exact tq (hr pos pins s1 σ H1 _ I1 q1) fun us s2 xs H2 I2 r2 q2=>⟨x::xs,H2,I2,.cons r1 r2,q2⟩
def Qy (t:TA):TE:=fun σ H Q=>t σ H fun xs H1=>xs.length<=sizeLine/\∀ p,H1 p=none->Q (.ref p) (upd H1 p (.tup xs))
def OI (t:TA):TE:=fun σ H Q=>t σ H fun xs H1=>xs.length<=sizeLine/\∀ p,H1 p=none->Q (.ref p) (upd H1 p (.lst xs))
theorem eL {x1} (h:PA X es t):PE X (.Tuple es x1 pos) (Qy t):=by
 intro pins s σ H Q I hq;refine wpAny_Tuple_spliced (tq (h pos pins s σ H _ I hq) fun us s1 xs H1 I1 r ⟨z,q⟩=>⟨by rw [<- r.length];exact z,?_⟩);have hf:H1 s1.heap.objs.size=none:=I1.hok.fresh (Nat.le_refl _);refine ⟨.ref s1.heap.objs.size,upd H1 s1.heap.objs.size (.tup xs),I1.laid (t':=s1.toks) (fun b u e=>Heap.get?_push_of_some _ e) (Nat.le_refl _) ?_,rfl,q _ hf⟩;exact ⟨z,us,r,⟨_,Heap.get?_push_size _ rfl,rfl,_,rfl⟩⟩
theorem cg (h:PA X es t):PE X (.List es pos) (OI t):=by
 intro pins s σ H Q I hq;refine wpAny_List_spliced (tq (h pos pins s σ H _ I hq) fun us s1 xs H1 I1 r ⟨z,q⟩=>⟨by rw [<- r.length];exact z,?_⟩);have hf:H1 s1.heap.objs.size=none:=I1.hok.fresh (Nat.le_refl _);refine ⟨.ref s1.heap.objs.size,upd H1 s1.heap.objs.size (.lst xs),I1.laid (t':=s1.toks) (fun b u e=>Heap.get?_push_of_some _ e) (Nat.le_refl _) ?_,rfl,q _ hf⟩;exact ⟨z,us,0,r,Heap.get?_push_size _ rfl⟩
end
abbrev Sp:=List V->Hp->VK->XK->Prop
abbrev CXT:=List Env->Hp->Shared->XK->Value->Shared->Prop
structure Env0 (P:Program) (w:World) (K:PySem.W.Frag) (mg:Str->Option Value) (base:Heap) (A:Around) (outer:List Env) (s:Shared) (H:Hp):Prop where
 frames:A.frames=some outer
 mod:Mod K mg base
 bs:∀ b o,base.get? b=some o->s.heap.get? b=some o/\H b=none
 bsz:base.objs.size<=s.heap.objs.size
 funs:s.heap.FunFrames base outer
 frf:∀ b∈frs outer,H b=none
 hok:HOk P w H s.heap
 bare:AllBare s.gens
def CE (outer:List Env) (P:Program) (w:World) (H:Hp) (s:Shared) (Q:VK) (u:Value) (s':Shared):Prop :=
 ∃ v H',s'.os=s.os/\AllBare s'.gens/\Un (frs outer) [] H H' s.heap s'.heap/\HOk P w H' s'.heap/\RelV v u/\Q v H'
def CR (CX:CXT) (outer:List Env) (P:Program) (w:World) (H:Hp) (s:Shared) (Q:VK) (E:XK) (r:Result) (s':Shared):Prop :=
 match r with
 | .ok (.ret u)=>CE outer P w H s Q u s'
 | .ok _=>False
 | .error e=>CX outer H s E e s'
structure FnOk (P:Program) (w:World) (K:PySem.W.Frag) (mg:Str->Option Value) (base:Heap) (CX:CXT) (k:Nat) (f:Addr) (fd:FuncData) (ps:List Str) (sp:Sp):Prop where
 len:∀ vs H Q E,sp vs H Q E->vs.length=ps.length
 run:∀ (A:Around) (outer:List Env) (s:Shared) (H:Hp) (args:Args) (us:List Value) (vs:List V) (Q:VK) (E:XK),Room k A->Env0 P w K mg base A outer s H->BindsTo s fd args (ps.zip us)->Vals vs us->sp vs H Q E ->
   codeAny (model P w) A (.call (.ref f) args) (CR CX outer P w H s Q E) s
theorem Env0.make {P:Program} {w:World} {K:PySem.W.Frag} {mg:Str->Option Value} {base:Heap} {A:Around} {outer:List Env} {s:Shared} {H:Hp} (e:Env0 P w K mg base A outer s H) (C:Addr) (us:List Value) (kw:List (Str × Value)) :
   Env0 P w K mg base (A.under (.builtin "type.__call__" ⟨.ref C::us,kw⟩)) outer s H:=⟨by first|exact e.frames|(simpa [Around.under,Code.envs,Code.isFrame,pushEnvs] using e.frames),e.mod,e.bs,e.bsz,e.funs,e.frf,e.hok,e.bare⟩
section
variable {X:Cx} {pins:List (Addr × Obj)} {σ:St} {H:Hp} {s s':Shared}
theorem Inv.env0 (I:Inv X pins σ H s):Env0 X.prog X.w X.K X.mg X.base X.A X.stack s H :=
 ⟨I.ok.frames,I.ok.mod,I.bs,Nat.le_trans I.ok.bsz I.sz,I.stack,I.stkFree,I.hok,I.bare⟩
theorem Inv.after {Q:VK} {u:Value} (I:Inv X pins σ H s) (h:CE X.stack X.prog X.w H s Q u s'):EP X pins σ Q u s':=by
 obtain ⟨v,H',os,bare,un,hok,r,q⟩:=h;obtain ⟨hh,g,d,t,os'⟩:=s';obtain rfl:os'=s.os:=os;exact ⟨v,H',I.call (h':=hh) (g':=g) (d':=d) (t':=t) (ch:=[]) un hok bare (fun b z=>absurd z (by simp)),r,q⟩
end
def Ly (sp:Sp) (dvs:List V) (E:XK) (t:TA):TE:=fun σ H Q=>t σ H fun vs H1=>sp (vs++dvs) H1 Q E
def RU (C:Addr) (m:Str) (sp:Sp) (dvs:List V) (E:XK) (ta:TE) (t:TA):TE:=fun σ H Q=>ta σ H fun x H1=>∃ a dx fs,x=.ref a/\H1 a=some (.ins C dx fs)/\fs.lookup m=none /\
 t σ H1 fun vs H2=>sp (x::(vs++dvs)) H2 Q E
def KH (C:Addr) (sp:Sp) (dvs:List V) (E:XK) (t:TA):TE:=fun σ H Q=>t σ H fun vs H1=>∀ x dx,H1 x=none->H1 dx=none->dx≠x ->
 sp (.ref x::(vs++dvs)) (upd (upd H1 dx (.own x)) x (.ins C dx [])) (fun v H2=>v=.non/\Q (.ref x) H2) E
def Binds (K:PySem.W.Frag) (fd:FuncData) (ps:List Str) (ds:List Value):Prop :=
 ∀ (s:Shared) (us:List Value),K.In s.heap->(us++ds).length=ps.length->BindsTo s fd ⟨us,[]⟩ (ps.zip (us++ds))
theorem Binds.all {K:PySem.W.Frag} {fd:FuncData} {ps:List Str} (h:∀ us:List Value,us.length=ps.length->bindArgs fd ⟨us,[]⟩=pure (ps.zip us)):Binds K fd ps []:=fun s us _ hl=>by
 rw [List.append_nil] at hl ⊢;exact .of_eq (h us hl)
def uO (CX:CXT) (X:Cx) (E:XK):Prop:=∀ (pins:List (Addr × Obj)) (σ:St) (H:Hp) (s:Shared) (e:Value) (s':Shared),Inv X pins σ H s->CX X.stack H s E e s'->X.xe e s'
section
variable {X:Cx} {CX:CXT} {k:Nat} {f C:Addr} {fd:FuncData} {ps:List Str} {sp:Sp} {dvs:List V} {ds:List Value} {E:XK} {x m:Str} {p pos apos:Pos} {e o:Expr} {es:List Expr} {ta:TE} {t:TA}
theorem TZ {pins:List (Addr × Obj)} {σ:St} {H:Hp} {s:Shared} {Q:VK} {us:List Value} {vs:List V} (F:FnOk X.prog X.w X.K X.mg X.base CX k f fd ps sp) (hr:Room k X.A) (hb:Binds X.K fd ps ds) (hd:Vals dvs ds) (hx:uO CX X E)
   (I:Inv X pins σ H s) (r:Vals vs us) (h:sp (vs++dvs) H Q E):wpAny (model X.prog X.w) X.A (call (.ref f) us) (EP X pins σ Q) X.xe s:=by
 have r2:Vals (vs++dvs) (us++ds):=r.append hd;have hl:(us++ds).length=ps.length:=by rw [<- r2.length];exact F.len _ _ _ _ h
 refine wpAny_call (codeAny_mono (F.run X.A X.stack s H ⟨us,[]⟩ (us++ds) (vs++dvs) Q E hr I.env0 (hb s us I.kIn hl) r2 h) fun r s' hq=>?_);cases r with
 | error e=>exact hx pins σ H s e s' I hq
 | ok fl =>
   cases fl with
   | ret u=>exact I.after hq
   | next=>exact False.elim hq
   | brk=>exact False.elim hq
   | cont=>exact False.elim hq
theorem au (F:FnOk X.prog X.w X.K X.mg X.base CX k f fd ps sp) (hr:Room k X.A) (hg:Gl X x) (hm:X.mg x=some (.ref f)) (hk:PySem.W.keepIn X.K (.ref f)=true) (hb:Binds X.K fd ps ds) (hd:Vals dvs ds) (hx:uO CX X E)
   (ha:PA X (e::es) t) (hdb:(x == ("__debug__":Str))=false:=by decide) (he:starEach (e::es) X.env=(false,eval e X.env)::starEach es X.env:=by rfl) (hpl:(backTo pos (starEach es X.env)).any (·.1)=false:=by rfl) :
   PE X (.Call (.Name x p) (e::es) [] pos) (Ly sp dvs E t):=by
 intro pins s σ H Q I h;refine wpAny_Call_Name_kw (y6 I hg hm ?_ hdb);refine PySem.W.callWith_K (h₀:=X.base) I.ok.mod.kin hk (tq (ha pos pins s σ H _ I h) fun us s1 vs H1 I1 r q=>⟨I1.kIn,?_⟩) he hpl;exact TZ F hr hb hd hx I1 r q
structure Mk (K:PySem.W.Frag) (C f:Addr):Prop where
 makes:PySem.W.makesIn K C=true
 init:PySem.W.findIn K (.ref C) "__init__"=some (some (.ref f))
 fn:PySem.W.isFn K (.ref f)=true
 kp:PySem.W.keepIn K (.ref C)=true
theorem Rp {pins:List (Addr × Obj)} {σ:St} {H:Hp} {s:Shared} {Q:VK} {us:List Value} {vs:List V} (M:Mk X.K C f) (F:FnOk X.prog X.w X.K X.mg X.base CX k f fd ps sp) (hr:Room (k+1) X.A) (hb:Binds X.K fd ps ds) (hd:Vals dvs ds)
   (hx:uO CX X E) (I:Inv X pins σ H s) (r:Vals vs us)
   (h:∀ x dx,H x=none->H dx=none->dx≠x->sp (.ref x::(vs++dvs)) (upd (upd H dx (.own x)) x (.ins C dx [])) (fun v H2=>v=.non/\Q (.ref x) H2) E) :
   wpAny (model X.prog X.w) X.A (call (.ref C) us) (EP X pins σ Q) X.xe s:=by
 have hq:=h (s.heap.objs.size+1) s.heap.objs.size (I.hok.fresh (Nat.le_succ _)) (I.hok.fresh (Nat.le_refl _)) (Nat.ne_of_lt (Nat.lt_succ_self _));have I2:=Inv.made (C:=C) I;have r2:Vals (V.ref (s.heap.objs.size+1)::(vs++dvs)) (Value.ref (s.heap.objs.size+1)::(us++ds)):=.cons rfl (r.append hd);have hl:(Value.ref (s.heap.objs.size+1)::us++ds).length=ps.length:=by
   have e:=r2.length;rw [F.len _ _ _ _ hq] at e;exact e.symm
 refine wpAny_call (Qp (f:=f) I.kIn M.makes M.init (beq_iff_eq.mp M.fn) (codeAny_mono (F.run _ X.stack _ _ ⟨Value.ref (s.heap.objs.size+1)::us,[]⟩ (Value.ref (s.heap.objs.size+1)::(us++ds)) _ _ E (hr.make C us [])
   (I2.env0.make C us []) (hb _ (Value.ref (s.heap.objs.size+1)::us) I2.kIn hl) r2 hq) fun r s' hq'=>?_))
 cases r with
 | error e=>exact hx pins σ _ _ e s' I2 hq'
 | ok fl =>
   cases fl with
   | ret u =>
     obtain ⟨v,H',I3,rv,ev,q3⟩:=I2.after hq';subst ev;exact ⟨rv,⟨V.ref (s.heap.objs.size+1),H',I3,rfl,q3⟩⟩
   | next=>exact False.elim hq'
   | brk=>exact False.elim hq'
   | cont=>exact False.elim hq'
theorem JV (M:Mk X.K C f) (F:FnOk X.prog X.w X.K X.mg X.base CX k f fd ps sp) (hr:Room (k+1) X.A) (hg:Gl X x) (hm:X.mg x=some (.ref C)) (hb:Binds X.K fd ps ds) (hd:Vals dvs ds) (hx:uO CX X E)
   (ha:PA X (e::es) t) (hdb:(x == ("__debug__":Str))=false:=by decide) (he:starEach (e::es) X.env=(false,eval e X.env)::starEach es X.env:=by rfl) (hpl:(backTo pos (starEach es X.env)).any (·.1)=false:=by rfl) :
   PE X (.Call (.Name x p) (e::es) [] pos) (KH C sp dvs E t):=by
 intro pins s σ H Q I h;refine wpAny_Call_Name_kw (y6 I hg hm ?_ hdb);refine PySem.W.callWith_K (h₀:=X.base) I.ok.mod.kin M.kp (tq (ha pos pins s σ H _ I h) fun us s1 vs H1 I1 r q=>⟨I1.kIn,?_⟩) he hpl;exact Rp M F hr hb hd hx I1 r q
end
structure FnScope (N P:List Str) (sc:Scope):Prop where
 kind:sc.kind=.function
 co:sc.isCoroutine=false
 gen:sc.isGenerator=false
 nd:N.Nodup
 pre:N.take P.length=P
 par:∀ x∈P,sc.names.lookup x=some .local\/sc.names.lookup x=some .cell
 nofree:∀ y∈sc.names,y.2≠.free
theorem D5 {kindOf:Str->Option NameKind} {x:Str}:∀ {binds:List (Str × Value)} {m:Str->Option Value},(∀ v,(x,v) ∉ binds)->bindL kindOf binds m x=m x
 | [],_,_=>rfl
 | (n,v)::r,m,h=>by
   unfold bindL;rw [D5 fun w hw=>h w (List.mem_cons_of_mem _ hw)];split
   . have:x≠n:=(by rintro rfl;exact h v List.mem_cons_self);simp [this]
   . rfl
theorem Eu {kindOf:Str->Option NameKind} {x:Str}:∀ {binds:List (Str × Value)} {m:Str->Option Value},(∀ v,(x,v) ∉ binds)->bindC kindOf binds m x=m x
 | [],_,_=>rfl
 | (n,v)::r,m,h=>by
   unfold bindC;rw [Eu fun w hw=>h w (List.mem_cons_of_mem _ hw)];split
   . rfl
   . have:x≠n:=(by rintro rfl;exact h v List.mem_cons_self);simp [this]
theorem El {kindOf:Str->Option NameKind} {x:Str} {v:Value}:∀ {P:List Str} {vs:List Value} {i:Nat} {m:Str->Option Value},P.Nodup->P[i]?=some x->vs[i]?=some v->kindOf x=some .local ->
   bindL kindOf (P.zip vs) m x=some v
 | [],_,_,_,_,h,_,_=>by simp at h
 | _::_,[],_,_,_,_,h,_=>by simp at h
 | p::P,w::vs,0,m,nd,h1,h2,hk=>by
   simp at h1 h2;subst h1;subst h2;show bindL kindOf ((p,w)::P.zip vs) m p=_;unfold bindL;rw [D5 fun v hv=>(List.nodup_cons.mp nd).1 (List.of_mem_zip hv).1,if_pos hk];simp
 | p::P,w::vs,i+1,m,nd,h1,h2,hk=>by
   show bindL kindOf ((p,w)::P.zip vs) m x=_;unfold bindL;exact El (i:=i) (List.nodup_cons.mp nd).2 (by simpa using h1) (by simpa using h2) hk
theorem Eg {kindOf:Str->Option NameKind} {x:Str} {v:Value}:∀ {P:List Str} {vs:List Value} {i:Nat} {m:Str->Option Value},P.Nodup->P[i]?=some x->vs[i]?=some v->kindOf x≠some .local ->
   bindC kindOf (P.zip vs) m x=some v
 | [],_,_,_,_,h,_,_=>by simp at h
 | _::_,[],_,_,_,_,h,_=>by simp at h
 | p::P,w::vs,0,m,nd,h1,h2,hk=>by
   simp at h1 h2;subst h1;subst h2;show bindC kindOf ((p,w)::P.zip vs) m p=_;unfold bindC;rw [Eu fun v hv=>(List.nodup_cons.mp nd).1 (List.of_mem_zip hv).1,if_neg hk];simp
 | p::P,w::vs,i+1,m,nd,h1,h2,hk=>by
   show bindC kindOf ((p,w)::P.zip vs) m x=_;unfold bindC;exact Eg (i:=i) (List.nodup_cons.mp nd).2 (by simpa using h1) (by simpa using h2) hk
def start (N:List Str) (vs:List V):St:=vs.map some++List.replicate (N.length - vs.length) none
def pE (CX:CXT) (P:Program) (w:World) (K:PySem.W.Frag) (mg:Str->Option Value) (base:Heap) (N:List Str) (qual:Str) (scope:Scope) (f:Addr) (cd:Value) (A:Around) (outer:List Env) (s:Shared) (H:Hp) (E:XK):Cx where
 prog:=P
 w:=w
 K:=K
 mg:=mg
 base:=base
 A:=A.deeper (envOfC qual scope s.heap.objs.size f cd)
 N:=N
 s₀:=s
 H₀:=H
 env:=envOfC qual scope s.heap.objs.size f cd
 outer:=outer
 stack:=envOfC qual scope s.heap.objs.size f cd::outer
 ex:=[]
 calm:=true
 fn:=fun _=>true
 pn:=[]
 xe:=fun e s'=>wpAny (model P w) (A.deeper (envOfC qual scope s.heap.objs.size f cd)) (leaving (envOfC qual scope s.heap.objs.size f cd) e) (fun _ s''=>CX outer H s E e s'') (fun e' s''=>CX outer H s E e' s'') s'
theorem dA {sc:Scope} {n:Nat} {x:Str} (h:sc.names.lookup x=some .cell):∃ c,(cellsFrom n sc.names []).lookup x=some c:=by
 have q:=PySem.W.cellsFrom_some sc.names n [] (.inl h);exact Option.isSome_iff_exists.mp q
theorem Nx {CX:CXT} {P:Program} {w:World} {K:PySem.W.Frag} {mg:Str->Option Value} {base:Heap} {N ps:List Str} {qual:Str} {scope:Scope} {f:Addr} {cd:Value} {A:Around} {outer:List Env} {s s1:Shared} {H:Hp} {E:XK} {us:List Value} {vs:List V}
   (S:FnScope N ps scope) (hd:A.handled=none) (e0:Env0 P w K mg base A outer s H) (hl:vs.length=ps.length) (r:Vals vs us)
   (x:InCallC s s.heap.objs.size (bindL (envOfC qual scope s.heap.objs.size f cd).kindOf (ps.zip us) fun _=>none) (cellsFrom (s.heap.objs.size+1) scope.names []) (bindC (envOfC qual scope s.heap.objs.size f cd).kindOf (ps.zip us) fun _=>none) s1) :
   Inv (pE CX P w K mg base N qual scope f cd A outer s H E) [] (start N vs) H s1:=by
 have hpl:ps.length<=N.length:=by have:=congrArg List.length S.pre;rw [List.length_take] at this;omega
 obtain ⟨h1,tk,rfl,hk⟩:=x.done;have noA:∀ b:Addr,b ∉ (pE CX P w K mg base N qual scope f cd A outer s H E).ex:=fun b z=>absurd (show b∈([]:List Addr) from z) (by simp);refine ⟨⟨e0.mod,S.kind,rfl,rfl,Nat.le_refl _,fun y z c h1 h2=>?_,fun y hy=>?_,fun y c _ h=>?_,fun _=>hd,Around.frames_deeper e0.frames,.inr ⟨rfl,rfl⟩,fun b z=>absurd z (noA b),e0.bs,e0.bsz,fun b _ _=>noA b,fun b z=>absurd z (noA b),e0.funs,e0.frf⟩,
   rfl,e0.bare,Un.kept hk,⟨_,x.toInCall.ns,fun i y v h1 h2 h3=>?_⟩,fun y c h=>⟨_,x.cell y c h⟩,e0.hok.fresh (Nat.le_refl _),fun y c h=>?_,fun p hp=>absurd (show p∈([]:List (Addr × Obj)) from hp) (by simp),e0.hok.kept hk,?_⟩
 . exact name_of_addr x.apart (PySem.mem_of_lookup h1) (PySem.mem_of_lookup h2)
 . have hy:scope.names.lookup y=some .cell\/scope.names.lookup y=some .free:=hy;rcases hy with hy|hy
   . exact dA hy
   . exact absurd rfl (S.nofree _ (PySem.mem_of_lookup hy))
 . exact Nat.le_of_lt (x.above y c (PySem.mem_of_lookup h))
 . have hi:i<vs.length:=by
     unfold start at h2;by_cases hi:i<vs.length
     . exact hi
     . rw [List.getElem?_append_right (by simpa using hi)] at h2;rw [List.getElem?_replicate] at h2;split at h2 <;> cases h2
   have ha:vs[i]?=some v:=by
     unfold start at h2;rw [List.getElem?_append_left (by simpa using hi),List.getElem?_map] at h2;cases e:vs[i]? with
     | none=>rw [e] at h2;cases h2
     | some a=>rw [e] at h2;cases h2;rfl
   obtain ⟨u,hu,rv⟩:=r.get ha;have hp:ps[i]?=some y:=by
     rw [<- S.pre,List.getElem?_take_of_lt (by omega)];exact h1
   have ndP:ps.Nodup:=by rw [<- S.pre];exact S.nd.sublist (List.take_sublist _ _)
   refine ⟨u,rv,?_⟩;rcases S.par y (List.mem_of_getElem? hp) with k|k
   . exact .inl ⟨k,El ndP hp hu k⟩
   . obtain ⟨c,e⟩:=dA (n:=s.heap.objs.size+1) k;refine .inr ⟨.inl k,c,e,?_⟩;have q:=x.cell y c e;rw [Eg ndP hp hu (by show scope.names.lookup y≠_;rw [k];decide)] at q;exact q
 . exact e0.hok.fresh (Nat.le_of_lt (x.above y c (PySem.mem_of_lookup h)))
 . unfold start;show _=N.length;rw [List.length_append,List.length_map,List.length_replicate];omega
theorem RT {CX:CXT} {P:Program} {w:World} {K:PySem.W.Frag} {mg:Str->Option Value} {base:Heap} {k:Nat} {f:Addr} {name qual:Str} {params:Arguments} {body:List Stmt} {scope:Scope} {dV kV doc pm cdv ct oc:Value} {an od:Option Addr}
   {osl:Array (Option Value)} {N ps:List Str} {sp:Sp} (lk:K.lookup f=some ⟨oc,od,.func (PySem.W.fnOf name qual params body scope dV kV doc pm an cdv ct),osl⟩) (hcd:PySem.W.codeIn K cdv qual=true) (S:FnScope N ps scope)
   (len:∀ vs H Q E,sp vs H Q E->vs.length=ps.length)
   (hbody:∀ (A:Around) (outer:List Env) (s:Shared) (H:Hp) (vs:List V) (Q:VK) (E:XK),Room k (A.deeper (envOfC qual scope s.heap.objs.size f cdv))->sp vs H Q E ->
     ∃ t,PSs (pE CX P w K mg base N qual scope f cdv A outer s H E) body t/\t { nx:=fun _ H'=>Q .non H',rt:=Q } (start N vs) H) :
   FnOk P w K mg base CX (k+1) f (PySem.W.fnOf name qual params body scope dV kV doc pm an cdv ct) ps sp:=by
 refine ⟨len,fun A outer s H args us vs Q E hr e0 hb r hsp=>?_⟩;have hl:=len _ _ _ _ hsp;have KX:K.In s.heap:=e0.mod.kin.keeps fun b o e=>(e0.bs b o e).1;have lim:s.heap.NoLimit:=e0.mod.nolimit.keeps fun b o e=>(e0.bs b o e).1;have hkind:∀ y∈ps.zip us,scope.names.lookup y.1=some .local\/(scope.names.lookup y.1=some .cell/\((cellsFrom (s.heap.objs.size+1) scope.names []).lookup y.1).isSome=true):=fun ⟨n,v⟩ hy=>by
   rcases S.par n (List.of_mem_zip hy).1 with q|q
   . exact .inl q
   . exact .inr ⟨q,PySem.W.cellsFrom_some _ _ _ (.inl q)⟩
 refine codeAny_call_function hr.depth (KX _ _ lk) rfl S.co S.gen rfl (PySem.W.codeRec_of KX hcd) (hb _ _ _ _ ?_);refine wpAny_newFunctionEnv_cells S.kind hkind fun env he s1 x=>?_;subst he;refine ⟨lim.keeps x.toInCall.keep,codeAny_func ?_⟩;obtain ⟨t,ht,hq⟩:=hbody A outer s H vs Q E (hr.deeper _) hsp;have I:Inv (pE CX P w K mg base N qual scope f cdv A outer s H E) [] (start N vs) H s1:=Nx S hr.hd e0 hl r x;refine wpAny_mono (ht [] s1 (start N vs) H _ I hq) (fun fl s' hs=>?_) fun e s' hs=>hs;have fin:∀ {σ':St} {H':Hp} {v:V} {u:Value},Inv (pE CX P w K mg base N qual scope f cdv A outer s H E) [] σ' H' s'->RelV v u->Q v H'->CE outer P w H s Q u s' :=
   fun {σ' H' v u} J rv q=>⟨v,H',J.os,J.bare,J.base,J.hok,rv,q⟩
 cases fl with
 | ret u =>
   obtain ⟨v,σ',H',J,rv,q⟩:=hs;exact fin J rv q
 | next =>
   obtain ⟨σ',H',J,q⟩:=hs;exact fin (v:=V.non) (u:=Value.none) J rfl q
 | brk =>
   obtain ⟨_,_,_,q⟩:=hs;exact False.elim q
 | cont =>
   obtain ⟨_,_,_,q⟩:=hs;exact False.elim q
end L2
namespace L2
open PySem PySem.Spec PyProof.Rows
section
variable {X:Cx} {x:Str} {p pos:Pos} {e:Expr} {es:List Expr} {t:TA} {id T:String} {r:List V->Hp->VK->Prop}
def tCB (r:List V->Hp->VK->Prop) (t:TA):TE:=fun σ H Q=>t σ H fun vs H1=>r vs H1 Q
theorem cz (hc:j9 X (.builtin id) r) (hg:Gl X x) (hm:X.mg x=none) (hv:bootBuiltins x=some (.builtin id)) (ha:PA X (e::es) t) (hn:x≠"__name__":=by decide) (hdb:(x == ("__debug__":Str))=false:=by decide)
   (he:starEach (e::es) X.env=(false,eval e X.env)::starEach es X.env:=by rfl) (hpl:(backTo pos (starEach es X.env)).any (·.1)=false:=by rfl):PE X (.Call (.Name x p) (e::es) [] pos) (tCB r t):=by
 intro pins s σ H Q I h;refine wpAny_Call_Name_kw (kH I hg hm hv ?_ hn hdb);exact PyProof.Rows.callWith_builtin1 (tq (ha pos pins s σ H _ I h) fun us s1 vs H1 I1 r1 q1=>hc pins s1 σ H1 vs us Q I1 r1 q1) he hpl
theorem mm (hc:j9 X (.type T) r) (hg:Gl X x) (hm:X.mg x=none) (hv:bootBuiltins x=some (.type T)) (ha:PA X (e::es) t) (hn:x≠"__name__":=by decide) (hdb:(x == ("__debug__":Str))=false:=by decide)
   (he:starEach (e::es) X.env=(false,eval e X.env)::starEach es X.env:=by rfl) (hpl:(backTo pos (starEach es X.env)).any (·.1)=false:=by rfl):PE X (.Call (.Name x p) (e::es) [] pos) (tCB r t):=by
 intro pins s σ H Q I h;refine wpAny_Call_Name_kw (kH I hg hm hv ?_ hn hdb);exact PyProof.Rows.callWith_type1 (tq (ha pos pins s σ H _ I h) fun us s1 vs H1 I1 r1 q1=>hc pins s1 σ H1 vs us Q I1 r1 q1) he hpl
end
end L2
namespace HT
open PySem PyProof.Rows
section
variable {prog:Program} {w:World} {A:Around} {E:Value->Shared->Prop} {s:Shared}
def sIx (n d:Nat):Option Int->Nat
 | none=>d
 | some v=>if v<0 then (v+(n:Int)).toNat else min v.toNat n
theorem UA (n d:Nat) (hd:d<=n) (o:Option Int):sIx n d o<=n:=by
 cases o with
 | none=>exact hd
 | some v =>
   show (if v<0 then (v+(n:Int)).toNat else min v.toNat n)<=n;by_cases hv:v<0
   . rw [if_pos hv];omega
   . rw [if_neg hv];exact Nat.min_le_right _ _
theorem J0 (v:Int) (n d:Nat):(if v<0 then max (v+(n:Int)) 0 else min v (n:Int))=((sIx n d (some v):Nat):Int):=by
 show (if v<0 then max (v+(n:Int)) 0 else min v (n:Int))=(((if v<0 then (v+(n:Int)).toNat else min v.toNat n):Nat):Int);by_cases hv:v<0
 . simp only [if_pos hv];omega
 . simp only [if_neg hv];omega
theorem LD (lo hi:Option Int) (n:Nat):Builtin.Slice.sliceAdjust lo hi 1 (n:Int)=(((sIx n 0 lo:Nat):Int),((sIx n n hi:Nat):Int)):=by
 have h1:¬ ((1:Int)<0):=by omega
 unfold Builtin.Slice.sliceAdjust;simp only [h1,if_false];refine Prod.ext ?_ ?_
 . cases lo with
   | none=>rfl
   | some v=>exact J0 v n 0
 . cases hi with
   | none=>rfl
   | some v=>exact J0 v n n
theorem LM (i j:Nat):Builtin.Slice.slicePlaces (i:Int) (j:Int) 1=j - i:=by
 unfold Builtin.Slice.slicePlaces;have h1:(1:Int) > 0:=by omega
 simp only [h1,if_true,Int.ediv_one];split <;> omega
theorem Bi {v:Value} {o:Option Int} {Q:Option Int->Shared->Prop} (p:IsPart v o) (h:Q o s):wpAny (model prog w) A (Builtin.Slice.slicePartIndex v) Q E s:=by
 cases p with
 | none=>exact slicePart_none h
 | int i t=>exact slicePart_int h
theorem Ar {sl:Addr} {vl vu:Value} {lo hi:Option Int} {n:Nat} {Q:Int × Int × Nat->Shared->Prop} (hs:s.heap.IsSliceOf sl vl vu .none) (pl:IsPart vl lo) (pu:IsPart vu hi)
   (h:Q (((sIx n 0 lo:Nat):Int),1,sIx n n hi - sIx n 0 lo) s):wpAny (model prog w) A (Builtin.Slice.sliceApplied (.ref sl) (pure (n:Int))) Q E s:=by
 obtain ⟨os,hos,hcs,hds⟩:=id hs;unfold Builtin.Slice.sliceApplied Builtin.Slice.sliceFields;refine wpAny_bind (wpAny_bind (wpAny_field hos hds (x:=vl) rfl (wpAny_bind (wpAny_field hos hds (x:=vu) rfl (wpAny_bind (wpAny_field hos hds (x:=.none) rfl (wpAny_pure ?_)))))));refine wpAny_bind (slicePart_none ?_);show wpAny _ _ (if ((1:Int) == 0)=true then _ else _) _ _ s;rw [if_neg (by decide)];refine wpAny_bind (Bi pl (wpAny_bind (Bi pu (wpAny_bind (wpAny_pure ?_)))));show wpAny _ _ (match Builtin.Slice.sliceAdjust lo hi 1 (n:Int) with|(lo,hi)=>pure (lo,(1:Int),Builtin.Slice.slicePlaces lo hi 1)) _ _ s;rw [LD lo hi n];show wpAny _ _ (pure (((sIx n 0 lo:Nat):Int),(1:Int),Builtin.Slice.slicePlaces ((sIx n 0 lo:Nat):Int) ((sIx n n hi:Nat):Int) 1)) _ _ s;rw [LM];exact wpAny_pure h
theorem O7 (xs:Array Value) (i k:Nat):((List.range k).filterMap fun (m:Nat)=>xs[((i:Int)+(m:Int)*1).toNat]?).toArray=((xs.toList.drop i).take k).toArray:=by
 have e:(fun (m:Nat)=>xs[((i:Int)+(m:Int)*1).toNat]?)=fun m=>xs[i+m]?:=by
   funext m
   have:((i:Int)+(m:Int)*1).toNat=i+m:=by omega
   rw [this]
 rw [e];have:=pick_run xs i k;rw [List.filterMap_map] at this;have e2:((fun x=>xs[x]?) ∘ fun x=>i+x)=fun m=>xs[i+m]?:=rfl;rw [e2] at this;rw [this]
theorem getItem_tuple_cut {t sl:Addr} {items:Array Value} {vl vu:Value} {lo hi:Option Int} {Q:Value->Shared->Prop} (ht:IsTup s.heap t items) (hs:s.heap.IsSliceOf sl vl vu .none) (pl:IsPart vl lo) (pu:IsPart vu hi)
   (hw:¬ (sIx items.size 0 lo=0/\sIx items.size items.size hi=items.size))
   (h:Q (.ref s.heap.objs.size) { s with heap:=s.heap.push { cls:=.type "tuple",data:=.seq ((items.toList.drop (sIx items.size 0 lo)).take (sIx items.size items.size hi - sIx items.size 0 lo)).toArray } })
   (hsz:items.size<=sizeLine):wpAny (model prog w) A (getItem (.ref t) (.ref sl)) Q E s:=by
 have htake:sizeOk (.seq ((items.toList.drop (sIx items.size 0 lo)).take (sIx items.size items.size hi - sIx items.size 0 lo)).toArray):=by
   show ((items.toList.drop (sIx items.size 0 lo)).take (sIx items.size items.size hi - sIx items.size 0 lo)).toArray.size<=sizeLine;rw [List.size_toArray,List.length_take,List.length_drop,Array.length_toList];omega
 have hj:sIx items.size items.size hi<=items.size:=UA _ _ (Nat.le_refl _) hi;obtain ⟨os,hos,hcs,hds⟩:=id hs;have hTs:s.TypeIs (.ref sl) "slice":=⟨os,hos,hcs⟩;unfold getItem
 try with_reducible refine wpAny_holding ?_
 first|refine wpAny_bind (wpAny_pure ?_)|skip
 refine wpAny_bind (wpAny_sequenceKey ht.typeIs (by decide) ?_);refine wpAny_bind (wpAny_callSpecial?_slot (name:=Str.ofString "__getitem__") ht.typeIs PyProof.Rows.slot_tuple_getitem
   (wpAny_call_entry PyProof.Rows.slot_tuple_getitem ht.typeIs entry_tuple_getitem ?_ (args_tuple_getitem _ _)))
 show wpAny _ _ (Builtin.Tuple.tupleItemsOf (.ref t) >>= _) _ _ s;refine wpAny_bind (tupleItemsOf_ ht ?_);refine wpAny_bind (wpAny_typeOf hTs ?_);rw [if_pos (by decide)];refine wpAny_bind (Ar hs pl pu ?_);have hno:¬ ((((sIx items.size 0 lo:Nat):Int) == 0 && (1:Int) == 1 && (sIx items.size items.size hi - sIx items.size 0 lo) == items.size)=true):=by
   intro q;rw [Bool.and_eq_true,Bool.and_eq_true] at q;have q1:((sIx items.size 0 lo:Nat):Int)=0:=eq_of_beq q.1.1;have q2:sIx items.size items.size hi - sIx items.size 0 lo=items.size:=eq_of_beq q.2;exact hw ⟨by omega,by omega⟩
 show wpAny _ _ (if (((sIx items.size 0 lo:Nat):Int) == 0 && (1:Int) == 1 && (sIx items.size items.size hi - sIx items.size 0 lo) == items.size)=true then _ else _) _ _ s;rw [if_neg hno,O7]
 first
   | exact wpAny_bind (m:=Builtin.Tuple.tupleExact _) (wpAny_newObj_type (wpAny_pure ⟨_,rfl,wpAny_pure h⟩) htake)
   | exact wpAny_bind (m:=Builtin.Tuple.tupleExact _) (wpAny_newObj_type (wpAny_bind (wpAny_pure (wpAny_pure ⟨_,rfl,wpAny_pure h⟩))) htake)
   | exact wpAny_bind (wpAny_bind (m:=Builtin.Tuple.tupleExact _) (wpAny_newObj_type (wpAny_pure (wpAny_pure ⟨_,rfl,wpAny_pure h⟩)) htake))
   | exact wpAny_bind (wpAny_bind (m:=Builtin.Tuple.tupleExact _) (wpAny_newObj_type (wpAny_pure ⟨_,rfl,wpAny_pure h⟩) htake))
end
end HT
namespace L2
open PySem PySem.Spec PyProof.Rows
abbrev TO:=St->Hp->(Option Int->Hp->Prop)->Prop
def PO (X:Cx) (e:Option Expr) (t:TO):Prop :=
 ∀ (pins:List (Addr × Obj)) (s:Shared) (σ:St) (H:Hp) (Q:Option Int->Hp->Prop),Inv X pins σ H s->t σ H Q ->
   wpAny (model X.prog X.w) X.A (evalPart e X.env) (fun u s'=>∃ o H',Inv X pins σ H' s'/\IsPart u o/\Q o H') X.xe s
def tNoPart:TO:=fun _ H Q=>Q none H
def Fp (t:TE):TO:=fun σ H Q=>t σ H fun x H1=>∃ i,x=.int i/\Q (some i) H1
section
variable {X:Cx} {e:Expr} {te:TE} {lo hi:Option Expr} {tl th:TO} {pos p2:Pos}
theorem Kc:PO X none tNoPart:=by
 intro pins s σ H Q I h;rw [evalPart_none];exact wpAny_pure ⟨none,H,I,.none,h⟩
theorem yZ (h:PE X e te):PO X (some e) (Fp te):=by
 intro pins s σ H Q I hw;rw [evalPart_some];refine bx (h pins s σ H _ I hw) fun u s1 x H1 I1 r1 q1=>?_;obtain ⟨i,rfl,q⟩:=q1;obtain ⟨t,rfl⟩:=r1;exact ⟨some i,H1,I1,.int i t,q⟩
def SlR (X:Cx) (r:V->Option Int->Option Int->Hp->VK->Prop):Prop :=
 ∀ (pins:List (Addr × Obj)) (s:Shared) (σ:St) (H:Hp) (x:V) (v vl vu:Value) (lo hi:Option Int) (sl:Addr) (Q:VK),Inv X pins σ H s->RelV x v->s.heap.IsSliceOf sl vl vu .none->IsPart vl lo->IsPart vu hi->r x lo hi H Q ->
   ∃ T id,typeLookup (.type T) "__getitem__"=pure (some (.builtin id))/\s.TypeIs v T/\wpAny (model X.prog X.w) X.A (getItem v (.ref sl)) (EP X pins σ Q) X.xe s
def tSl (r:V->Option Int->Option Int->Hp->VK->Prop) (te:TE) (tl th:TO):TE:=fun σ H Q=>te σ H fun x H1=>tl σ H1 fun l H2=>th σ H2 fun u H3=>r x l u H3 Q
theorem A9 {r:V->Option Int->Option Int->Hp->VK->Prop} (hr:SlR X r) (he:PE X e te) (hl:PO X lo tl) (hu:PO X hi th):PE X (.Subscript e (.Slice lo hi none p2) pos) (tSl r te tl th):=by
 intro pins s σ H Q I h;refine Subscript_ (bx (he pins s σ H _ I h) fun v s1 x H1 I1 r1 q1=>?_);refine wpAny_Slice (thn (hl pins s1 σ H1 _ I1 q1) fun vl s2 ⟨l,H2,I2,pl,q2⟩=>thn (hu pins s2 σ H2 _ I2 q2) fun vu s3 ⟨u,H3,I3,pu,q3⟩=>?_);rw [evalPart_none];refine wpAny_pure ?_;have I4:Inv X pins σ H3 { s3 with heap:=s3.heap.push { cls:=.type "slice",data:=.fields #[vl,vu,.none] } }:=I3.kept (t':=s3.toks) fun b ob q=>Heap.get?_push_of_some _ q;obtain ⟨T,id,hT,ht,hg⟩:=hr pins { s3 with heap:=s3.heap.push { cls:=.type "slice",data:=.fields #[vl,vu,.none] } } σ H3 x v vl vu l u s3.heap.objs.size Q I4 r1 (Heap.IsSliceOf.new ..) pl pu q3;show wpAny (model X.prog X.w) X.A (subscriptTail e (.Slice lo hi none p2) v (.ref s3.heap.objs.size)) (EP X pins σ Q) X.xe { s3 with heap:=s3.heap.push { cls:=.type "slice",data:=.fields #[vl,vu,.none] } };exact tail_any (ops:=[.ref s3.heap.objs.size,v]) ht hT hg (by with_unfolding_all rfl)
def mw (xs:List V) (lo hi:Option Int):List V:=(xs.drop (HT.sIx xs.length 0 lo)).take (HT.sIx xs.length xs.length hi - HT.sIx xs.length 0 lo)
theorem zY (xs:List V) (lo hi:Option Int):(mw xs lo hi).length<=xs.length:=by
 unfold mw;rw [List.length_take,List.length_drop];omega
def Ta (K:PySem.W.Frag):V->Option Int->Option Int->Hp->VK->Prop:=fun x lo hi H Q=>∃ a xs,x=.ref a/\SqT K H a xs /\
 ¬ (HT.sIx xs.length 0 lo=0/\HT.sIx xs.length xs.length hi=xs.length)/\∀ p,H p=none->Q (.ref p) (upd H p (.tup (mw xs lo hi)))
theorem T4:SlR X (Ta X.K):=by
 intro pins s σ H x v vl vu lo hi sl Q I rx hs pl pu h;obtain ⟨a,xs,rfl,hx,hw,q⟩:=h;cases rx;obtain ⟨its,r,ht,hz⟩:=I.tuple hx;have hlen:its.toArray.size=xs.length:=by rw [List.size_toArray];exact r.length.symm
 refine ⟨"tuple",_,PyProof.Rows.slot_tuple_getitem.lookup,ht.typeIs,?_⟩;refine HT.getItem_tuple_cut ht hs pl pu (by rw [hlen];exact hw) ?_ (by rw [hlen];exact hz);rw [hlen];refine ⟨.ref s.heap.objs.size,_,I.laid (t':=s.toks) (o:=.tup (mw xs lo hi)) (fun b ob q=>Heap.get?_push_of_some _ q) (Nat.le_refl _) ?_,rfl,q _ (I.hok.fresh (Nat.le_refl _))⟩;exact ⟨Nat.le_trans (zY xs lo hi) hz,_,(r.drop (HT.sIx xs.length 0 lo)).take (HT.sIx xs.length xs.length hi - HT.sIx xs.length 0 lo),IsTup.new _ _⟩
end
end L2
namespace L2
open PySem PySem.Spec PyProof.Rows
def ixN (n:Nat) (i:Int):Option Nat:=if 0<=i then (if i<n then some i.toNat else none) else if -(n:Int)<=i then some (i+n).toNat else none
def atI {α:Type} (xs:List α) (i:Int):Option α:=(ixN xs.length i).bind fun j=>xs[j]?
theorem JP {n:Nat} {i:Int} {j:Nat} (h:ixN n i=some j):seqIndex? i n=some j/\j<n/\-(n:Int)<=i/\i<n:=by
 unfold ixN at h;by_cases h0:0<=i
 . rw [if_pos h0] at h;by_cases h1:i<n
   . rw [if_pos h1] at h;have e:i.toNat=j:=Option.some.inj h;exact ⟨by rw [seqIndex_of h0 h1,e],by omega,by omega,h1⟩
   . rw [if_neg h1] at h;cases h
 . rw [if_neg h0] at h;by_cases h1:-(n:Int)<=i
   . rw [if_pos h1] at h;have e:(i+n).toNat=j:=Option.some.inj h;exact ⟨by rw [seqIndex_neg (by omega) h1,e],by omega,h1,by omega⟩
   . rw [if_neg h1] at h;cases h
theorem JS {α:Type} {xs:List α} {i:Int} {v:α} (h:atI xs i=some v):∃ j,seqIndex? i xs.length=some j/\xs[j]?=some v/\j<xs.length/\-(xs.length:Int)<=i/\i<xs.length:=by
 unfold atI at h;cases e:ixN xs.length i with
 | none=>rw [e] at h;cases h
 | some j =>
   rw [e] at h;obtain ⟨h1,h2,h3,h4⟩:=JP e;exact ⟨j,h1,h,h2,h3,h4⟩
theorem De {α:Type} {xs:List α} {j:Nat} {v:α} (h:xs[j]?=some v):atI xs (j:Int)=some v:=by
 have hj:j<xs.length:=(List.getElem?_eq_some_iff.mp h).1;have e:ixN xs.length (j:Int)=some j:=by
   unfold ixN;rw [if_pos (by omega),if_pos (by omega)];simp
 unfold atI;rw [e];exact h
def Sy (b:Expr):Prop:=∀ o i,subscripted b false o i=operate [o,i] (getItem o i)
def IxR (X:Cx) (r:R2):Prop :=
 ∀ (value slice:Expr) (pins:List (Addr × Obj)) (s:Shared) (σ:St) (H:Hp) (x y:V) (v u:Value) (Q:VK),Inv X pins σ H s->RelV x v->RelV y u->r x y H Q ->
   subscripted slice false v u=operate [v,u] (getItem v u)->wpAny (model X.prog X.w) X.A (subscriptTail value slice v u) (EP X pins σ Q) X.xe s
def MtR (X:Cx) (id:String) (r:V->List V->Hp->VK->Prop):Prop :=
 ∀ (pins:List (Addr × Obj)) (s:Shared) (σ:St) (H:Hp) (x:V) (xs:List V) (v:Value) (us:List Value) (Q:VK),Inv X pins σ H s->RelV x v->Vals xs us->r x xs H Q ->
   wpAny (model X.prog X.w) X.A (call (.builtin id) (v::us)) (EP X pins σ Q) X.xe s
section
variable {X:Cx} {a b:Expr} {ta tb:TE} {pos:Pos}
theorem aH {r:R2} (hr:IxR X r) (ha:PE X a ta) (hb:PE X b tb) (hs:Sy b):PE X (.Subscript a b pos) (tOp r ta tb):=by
 intro pins s σ H Q I h;exact Subscript_ (PJ ha hb I h fun v u s2 x y H2 I2 rx ry q=>hr a b pins s2 σ H2 x y v u Q I2 rx ry q (hs _ _))
def LI (K:PySem.W.Frag):R2:=fun x y H Q=>∃ p xs i v,x=.ref p/\y=.int i/\SqL K H p xs/\atI xs i=some v/\Q v H
def HK (K:PySem.W.Frag):R2:=fun x y H Q=>∃ p xs i v,x=.ref p/\y=.int i/\SqT K H p xs/\atI xs i=some v/\Q v H
theorem aM:IxR X (LI X.K):=by
 intro value slice pins s σ H x y v u Q I rx ry h hs;obtain ⟨p,xs,i,z,rfl,rfl,hq,he,q⟩:=h;cases rx;obtain ⟨t,rfl⟩:=ry;obtain ⟨its,r,pl,hz⟩:=I.list hq;obtain ⟨j,h1,h2,h3,h4,h5⟩:=JS he;obtain ⟨w,ew,rw'⟩:=r.get h2;have hl:=r.length;have hn:=ue;have fin:EP X pins σ Q w s:=⟨z,H,I,rw',q⟩;by_cases h0:0<=i
 . have hj:i.toNat=j:=by
     rw [seqIndex_of h0 h5] at h1;exact Option.some.inj h1
   exact item_listR pl.isList h0 (by omega) (by rw [hj];simpa using ew) fin hs
 . have hj:(i+(its.toArray.size:Int)).toNat=j:=by
     rw [seqIndex_neg (by omega) h4] at h1;rw [List.size_toArray,<- hl];exact Option.some.inj h1
   exact subscriptTail_builtinR (x:=w) pl.isList.typeIs slot_list_getitem.lookup
     (wpAny_getItem_list_neg (Q:=fun r s'=>r=w/\EP X pins σ Q r s') pl.isList (by omega) (by rw [List.size_toArray] <;> omega) (by omega) (by rw [hj];simpa using ew) ⟨rfl,fin⟩) hs
theorem jc:IxR X (HK X.K):=by
 intro value slice pins s σ H x y v u Q I rx ry h hs;obtain ⟨p,xs,i,z,rfl,rfl,hq,he,q⟩:=h;cases rx;obtain ⟨t,rfl⟩:=ry;obtain ⟨its,r,pl,hz⟩:=I.tuple hq;obtain ⟨j,h1,h2,h3,h4,h5⟩:=JS he;obtain ⟨w,ew,rw'⟩:=r.get h2;have hl:=r.length;have hn:=ue;have fin:EP X pins σ Q w s:=⟨z,H,I,rw',q⟩;exact subscriptTail_builtinR (x:=w) pl.typeIs slot_tuple_getitem.lookup
   (getItem_tuple (j:=j) (Q:=fun r s'=>r=w/\EP X pins σ Q r s') pl (by omega) (by omega) (by rw [List.size_toArray,<- hl];exact h1) (by simpa using ew) ⟨rfl,fin⟩) hs
theorem K0 (its:List Value) (n j:Nat) (u:Value):Obj.mapSeq (·.setIfInBounds j u) { cls:=.type "list",data:=.seq its.toArray n }={ cls:=.type "list",data:=.seq (its.set j u).toArray n }:=by
 simp [Obj.mapSeq]
theorem Inv.lst {pins:List (Addr × Obj)} {σ:St} {H:Hp} {s:Shared} {p:Addr} {xs:List V} (I:Inv X pins σ H s) (h:H p=some (.lst xs)) :
   ∃ (its:List Value) (n:Nat),Vals xs its/\s.heap.get? p=some { cls:=.type "list",data:=.seq its.toArray n }/\xs.length<=sizeLine:=by
 obtain ⟨z,its,n,r,e⟩:=I.hok p _ h;exact ⟨its,n,r,e,z⟩
theorem Inv.lstUpd {pins:List (Addr × Obj)} {σ:St} {H:Hp} {s:Shared} {p:Addr} {xs ys:List V} {its its':List Value} {n n':Nat} {f:Obj->Obj} (I:Inv X pins σ H s) (h:H p=some (.lst xs))
   (ho:s.heap.get? p=some { cls:=.type "list",data:=.seq its.toArray n }) (hf:f { cls:=.type "list",data:=.seq its.toArray n }={ cls:=.type "list",data:=.seq its'.toArray n' }) (r:Vals ys its') (hz:ys.length<=sizeLine) (t:Nat) :
   Inv X pins σ (upd H p (.lst ys)) { s with heap:=s.heap.update p f,toks:=t }:=by
 have e:(s.heap.update p f).get? p=some { cls:=.type "list",data:=.seq its'.toArray n' }:=by
   rw [Heap.get?_update_self f ho (by rw [hf] <;> rfl),hf]
 refine I.write (x:=p) (e:=p) (by rw [h];trivial) (.inl rfl) (fun b u hb q=>(Heap.get?_update_other _ _ (Ne.symm hb)).trans q) ⟨_,e⟩ ?_;exact ⟨hz,its',n',r,e⟩
def rSetL:V->V->V->Hp->(Hp->Prop)->Prop:=fun o i v H Q=>∃ p xs k j,o=.ref p/\i=.int k/\H p=some (.lst xs)/\ixN xs.length k=some j/\Q (upd H p (.lst (xs.set j v)))
theorem lK:Uv X rSetL:=by
 intro pins s σ H o i v ov iv u Q I ro ri rv h;obtain ⟨p,xs,k,j,rfl,rfl,hp,hj,q⟩:=h;cases ro;obtain ⟨t,rfl⟩:=ri;obtain ⟨its,n,r,ho,hz⟩:=I.lst hp;obtain ⟨h1,h2,h3,h4⟩:=JP hj;have hl:=r.length;have hn:=ue;have I':Inv X pins σ (upd H p (.lst (xs.set j v))) { s with heap:=s.heap.update p (Obj.mapSeq (·.setIfInBounds j u)) } :=
   I.lstUpd hp ho (K0 its n j u) (r.set rv j) (by rw [List.length_set];exact hz) s.toks
 by_cases h0:0<=k
 . have hk:k.toNat=j:=by
     rw [seqIndex_of h0 h4] at h1;exact Option.some.inj h1
   exact PySem.W.ki_setAt ho h0 (by omega) (by rw [List.size_toArray,<- hl];exact h4) (by rw [hk];exact ⟨_,I',q⟩)
 . have hk:(k+(its.toArray.size:Int)).toNat=j:=by
     rw [seqIndex_neg (by omega) h3] at h1;rw [List.size_toArray,<- hl];exact Option.some.inj h1
   exact PySem.W.ki_setBack ho (by omega) (by rw [List.size_toArray,<- hl];exact h3) (by omega) (by rw [hk];exact ⟨_,I',q⟩)
theorem Hy (lo hi:Option Int) (n:Nat):(sliceBounds lo hi none n).1=((HT.sIx n 0 lo:Nat):Int)/\(sliceBounds lo hi none n).2.1=((HT.sIx n n hi:Nat):Int)/\(sliceBounds lo hi none n).2.2=1:=by
 refine ⟨?_,?_,rfl⟩
 . cases lo with
   | none=>simp [sliceBounds,HT.sIx]
   | some i =>
     simp only [sliceBounds,HT.sIx,Option.getD_none,show (1:Int) > 0 by decide,if_true];by_cases h:i<0
     . simp only [h,if_true] <;> omega
     . simp only [h,if_false] <;> omega
 . cases hi with
   | none=>simp [sliceBounds,HT.sIx]
   | some i =>
     simp only [sliceBounds,HT.sIx,Option.getD_none,show (1:Int) > 0 by decide,if_true];by_cases h:i<0
     . simp only [h,if_true] <;> omega
     . simp only [h,if_false] <;> omega
theorem EM (its:List Value) (lo hi:Option Int):slicePick its.toArray lo hi none=((its.drop (HT.sIx its.length 0 lo)).take (HT.sIx its.length its.length hi - HT.sIx its.length 0 lo)).toArray:=by
 obtain ⟨h1,h2,h3⟩:=Hy lo hi its.toArray.size;unfold slicePick;rw [h1,h2,h3];simp only [sliceRange_one,pick_run,List.size_toArray] <;> rfl
def Te (K:PySem.W.Frag):V->Option Int->Option Int->Hp->VK->Prop:=fun x lo hi H Q=>∃ a xs,x=.ref a/\SqL K H a xs/\∀ p,H p=none->Q (.ref p) (upd H p (.lst (mw xs lo hi)))
theorem Ky:SlR X (Te X.K):=by
 intro pins s σ H x v vl vu lo hi sl Q I rx hs pl pu h;obtain ⟨a,xs,rfl,hx,q⟩:=h;cases rx;obtain ⟨its,r,ht,hz⟩:=I.list hx;have hlen:=r.length;refine ⟨"list",_,slot_list_getitem.lookup,ht.isList.typeIs,?_⟩;refine wpAny_getItem_list_slice ht.isList hs pl pu .none (by simp) ?_ (by rw [List.size_toArray] <;> omega);rw [EM,<- hlen];refine ⟨.ref s.heap.objs.size,_,I.laid (t':=s.toks) (o:=.lst (mw xs lo hi)) (fun b ob q=>Heap.get?_push_of_some _ q) (Nat.le_refl _) ?_,rfl,q _ (I.hok.fresh (Nat.le_refl _))⟩;exact ⟨Nat.le_trans (zY xs lo hi) hz,_,0,(r.drop (HT.sIx xs.length 0 lo)).take (HT.sIx xs.length xs.length hi - HT.sIx xs.length 0 lo),Heap.get?_push_size _ rfl⟩
def rZ:V->Bool
 | .non=>true
 | .bl _=>true
 | .int _=>true
 | .str _=>true
 | _=>false
def eqV:V->V->Bool
 | .non,.non=>true
 | .bl a,.bl b=>a == b
 | .bl a,.int b=>(if a then 1 else 0) == b
 | .int a,.bl b=>a == (if b then 1 else 0)
 | .int a,.int b=>a == b
 | .str a,.str b=>a == b
 | _,_=>false
theorem Uf {A:Around} {s:Shared} {y x:V} {u v:Value} (ry:RelV y u) (rx:RelV x v) (fy:rZ y=true) (fx:rZ x=true):SeqAt.EqAt A s u v (eqV y x):=by
 cases y with
 | non =>
   cases ry;cases x with
   | non=>cases rx;exact SeqAt.EqAt.same _
   | bl b=>cases rx;exact SeqAt.EqAt.none_bool b
   | int b=>obtain ⟨t,rfl⟩:=rx;exact SeqAt.EqAt.none_int b t
   | str b=>obtain ⟨t,rfl⟩:=rx;exact SeqAt.EqAt.none_str b t
   | _=>exact absurd (show false=true from fx) Bool.false_ne_true
 | bl a =>
   cases ry;cases x with
   | non=>cases rx;exact SeqAt.EqAt.bool_none a
   | bl b=>cases rx;exact SeqAt.EqAt.bool_bool a b
   | int b=>obtain ⟨t,rfl⟩:=rx;exact SeqAt.EqAt.bool_int a b t
   | str b=>obtain ⟨t,rfl⟩:=rx;exact SeqAt.EqAt.bool_str a b t
   | _=>exact absurd (show false=true from fx) Bool.false_ne_true
 | int a =>
   obtain ⟨t',rfl⟩:=ry;cases x with
   | non=>cases rx;exact SeqAt.EqAt.int_none a t'
   | bl b=>cases rx;exact SeqAt.EqAt.int_bool a t' b
   | int b=>obtain ⟨t,rfl⟩:=rx;exact SeqAt.EqAt.int_int a t' b t
   | str b=>obtain ⟨t,rfl⟩:=rx;exact SeqAt.EqAt.int_str a t' b t
   | _=>exact absurd (show false=true from fx) Bool.false_ne_true
 | str a =>
   obtain ⟨t',rfl⟩:=ry;cases x with
   | non=>cases rx;exact SeqAt.EqAt.str_none a t'
   | bl b=>cases rx;exact SeqAt.EqAt.str_bool a t' b
   | int b=>obtain ⟨t,rfl⟩:=rx;exact SeqAt.EqAt.str_int a t' b t
   | str b=>obtain ⟨t,rfl⟩:=rx;exact SeqAt.EqAt.str_str a t' b t
   | _=>exact absurd (show false=true from fx) Bool.false_ne_true
 | _=>exact absurd (show false=true from fy) Bool.false_ne_true
def eqU (x:V) (u:Value):Bool:=match u with
 | .none=>eqV .non x
 | .bool b=>eqV (.bl b) x
 | .int i _=>eqV (.int i) x
 | .str z _=>eqV (.str z) x
 | _=>false
theorem Nu {x y:V} {u:Value} (r:RelV y u) (f:rZ y=true):eqU x u=eqV y x:=by
 cases y with
 | non=>cases r;rfl
 | bl b=>cases r;rfl
 | int i=>obtain ⟨t,rfl⟩:=r;rfl
 | str z=>obtain ⟨t,rfl⟩:=r;rfl
 | _=>exact absurd (show false=true from f) Bool.false_ne_true
theorem C2 {x:V}:∀ {xs:List V} {us:List Value},Vals xs us->xs.all rZ=true->us.any (eqU x)=xs.any fun y=>eqV y x
 | _,_,.nil,_=>rfl
 | y::xs,u::us,.cons r t,f=>by
   rw [List.all_cons,Bool.and_eq_true] at f;rw [List.any_cons,List.any_cons,Nu r f.1,C2 t f.2]
theorem Ai {A:Around} {s:Shared} {x:V} {v:Value} (rx:RelV x v) (fx:rZ x=true):∀ {xs:List V} {us:List Value},Vals xs us->xs.all rZ=true->∀ u∈us,SeqAt.EqAt A s u v (eqU x u)
 | _,_,.nil,_=>fun u hu=>by cases hu
 | y::xs,u::us,.cons r t,f=>fun u' hu=>by
   rw [List.all_cons,Bool.and_eq_true] at f;rcases List.mem_cons.mp hu with rfl|hu
   . rw [Nu r f.1];exact Uf r rx f.1 fx
   . exact Ai rx fx t f.2 u' hu
def inV (x:V) (xs:List V):Bool:=xs.any fun y=>eqV y x
def rIn (K:PySem.W.Frag) (neg:Bool):R2:=fun x y H Q=>∃ p xs,y=.ref p/\(SqL K H p xs\/SqT K H p xs)/\rZ x=true/\xs.all rZ=true/\Q (.bl (if neg then !inV x xs else inV x xs)) H
theorem Oq:OpR X (compareOp .In) (rIn X.K false):=by
 intro pins s σ H x y v u Q I rx ry h;obtain ⟨p,xs,rfl,hq,fx,fs,q⟩:=h;cases ry;rcases hq with hq|hq
 . obtain ⟨its,r,pl,hz⟩:=I.list hq;refine SeqAt.in_listAt (eqU x) pl.isList (fun w hw=>Ai rx fx r fs w (by simpa using hw)) ⟨.bl _,H,I,rfl,?_⟩;rw [show its.toArray.any (eqU x)=its.any (eqU x) by simp,C2 r fs];exact q
 . obtain ⟨its,r,pl,hz⟩:=I.tuple hq;refine SeqAt.in_tupleAt (eqU x) pl (fun w hw=>Ai rx fx r fs w (by simpa using hw)) ⟨.bl _,H,I,rfl,?_⟩;rw [show its.toArray.any (eqU x)=its.any (eqU x) by simp,C2 r fs];exact q
theorem cZ:j9 X (.builtin "len") (fun xs H Q=>∃ p ys,xs=[.ref p]/\(SqL X.K H p ys\/SqT X.K H p ys)/\Q (.int ys.length) H):=by
 intro pins s σ H xs us Q I r h;obtain ⟨p,ys,rfl,hq,q⟩:=h;obtain ⟨u,rfl,rx⟩:=qo r;cases rx;have hn:=ue;rcases hq with hq|hq
 . obtain ⟨its,r',pl,hz⟩:=I.list hq;have hlen:=r'.length;exact Calls.call_len_list pl.isList (by simp only [List.size_toArray] <;> omega) ⟨.int ys.length,H,I.tok _,⟨s.toks+1,by rw [List.size_toArray,hlen]⟩,q⟩
 . obtain ⟨its,r',pl,hz⟩:=I.tuple hq;have hlen:=r'.length;exact len_tuple pl (by simp only [List.size_toArray] <;> omega) ⟨.int ys.length,H,I.tok _,⟨s.toks+1,by rw [List.size_toArray,hlen]⟩,q⟩
theorem yA:j9 X (.type "list") (fun xs H Q=>∃ p ys,xs=[.ref p]/\(SqL X.K H p ys\/SqT X.K H p ys)/\∀ l,H l=none->Q (.ref l) (upd H l (.lst ys))):=by
 intro pins s σ H xs us Q I r h;obtain ⟨p,ys,rfl,hq,q⟩:=h;obtain ⟨u,rfl,rx⟩:=qo r;cases rx;have fin:∀ (its:List Value),Vals ys its->ys.length<=sizeLine->∀ (h':Heap) (c':Nat),(∀ b o',s.heap.get? b=some o'->h'.get? b=some o') ->
     h'.get? s.heap.objs.size=some { cls:=.type "list",dict:=none,data:=.seq its.toArray c',slots:=#[] }->EP X pins σ Q (.ref s.heap.objs.size) { s with heap:=h' }:=fun its r' hz h' c' kp e =>
   ⟨.ref s.heap.objs.size,_,I.laid (t':=s.toks) kp (Nat.le_refl _) (show ObjOk X.prog X.w _ h' _ (.lst ys) from ⟨hz,its,c',r',e⟩),rfl,q _ (I.hok.fresh (Nat.le_refl _))⟩
 rcases hq with hq|hq
 . obtain ⟨its,r',pl,hz⟩:=I.list hq;have hlen:=r'.length;obtain ⟨o,ho,hc,n,hd⟩:=pl.isList;exact call_list_seq p (.inl rfl) ho hc hd (fun h' c' kp e=>fin its r' hz h' c' kp e) (by simp only [List.size_toArray] <;> omega)
 . obtain ⟨its,r',pl,hz⟩:=I.tuple hq;have hlen:=r'.length;obtain ⟨o,ho,hc,n,hd⟩:=pl;exact call_list_seq p (.inr rfl) ho hc hd (fun h' c' kp e=>fin its r' hz h' c' kp e) (by simp only [List.size_toArray] <;> omega)
theorem wC:j9 X (.type "tuple") (fun xs H Q=>∃ p ys,xs=[.ref p]/\((SqL X.K H p ys/\∀ l,H l=none->Q (.ref l) (upd H l (.tup ys)))\/(SqT X.K H p ys/\Q (.ref p) H))):=by
 intro pins s σ H xs us Q I r h;obtain ⟨p,ys,rfl,h⟩:=h;obtain ⟨u,rfl,rx⟩:=qo r;cases rx;rcases h with ⟨hq,q⟩|⟨hq,q⟩
 . obtain ⟨its,r',pl,hz⟩:=I.list hq;have hlen:=r'.length;refine call_tuple_list pl.isList (fun h' kp=>?_) (by simp only [List.size_toArray] <;> omega);have I1:Inv X pins σ H { s with heap:=h' }:=I.kept (t':=s.toks) kp;have I2:Inv X pins σ (upd H h'.objs.size (.tup ys)) { s with heap:=h'.push { cls:=.type "tuple",data:=.seq its.toArray } } :=
     I1.laid (t':=s.toks) (fun b o e=>Heap.get?_push_of_some _ e) (Nat.le_refl _) (show ObjOk X.prog X.w _ _ _ (.tup ys) from ⟨hz,its,r',IsTup.new _ _⟩)
   exact ⟨.ref h'.objs.size,_,I2,rfl,q _ (I1.hok.fresh (Nat.le_refl _))⟩
 . obtain ⟨its,r',pl,hz⟩:=I.tuple hq;exact call_tuple_same pl ⟨.ref p,H,I,rfl,q⟩
def tyV (K:PySem.W.Frag) (T:String) (x:V) (H:Hp):Prop:=match x with
 | .str _=>T="str"
 | .int _=>T="int"
 | .ref p=>(T="list"/\∃ xs,SqL K H p xs)\/(T="tuple"/\∃ o,K.lookup p=some o/\o.cls=.type "tuple"/\o.dict=none) \/
     (T="dict"/\((∃ kvs,H p=some (.dK kvs))\/∃ kvs,H p=some (.dT kvs)))\/(T="set"/\∃ S n,H p=some (.set S n))
 | _=>False
theorem Nw {pins:List (Addr × Obj)} {σ:St} {H:Hp} {s:Shared} {T:String} {x:V} {v:Value} (I:Inv X pins σ H s) (r:RelV x v) (ty:tyV X.K T x H) :
   s.TypeIs v T/\∀ a,v=.ref a->∃ ob,s.heap.get? a=some ob/\ob.dict=none:=by
 cases x with
 | str z =>
   obtain ⟨t,rfl⟩:=r;cases (show T="str" from ty);exact ⟨typeIs_str s z t,fun _ e=>nomatch e⟩
 | int i =>
   obtain ⟨t,rfl⟩:=r;cases (show T="int" from ty);exact ⟨typeIs_int s i t,fun _ e=>nomatch e⟩
 | ref p =>
   cases r;rcases ty with ⟨rfl,xs,hq⟩|⟨rfl,o,hk,hc,hd⟩|⟨rfl,hk⟩|⟨rfl,S,n,hk⟩
   . obtain ⟨its,_,pl,_⟩:=I.list hq;refine ⟨pl.isList.typeIs,fun a e=>?_⟩;cases e;obtain ⟨o,n,e,c,hd,_⟩:=pl;exact ⟨o,e,hd⟩
   . refine ⟨⟨o,I.kIn p o hk,hc⟩,fun a e=>?_⟩;cases e;exact ⟨o,I.kIn _ o hk,hd⟩
   . have z:∃ o,s.heap.get? p=some o/\o.ExactDict:=by
       rcases hk with ⟨kvs,hk⟩|⟨kvs,hk⟩
       . obtain ⟨_,_,_,_,o,_,_,e,ex,_⟩:=I.hok p _ hk;exact ⟨o,e,ex⟩
       . obtain ⟨_,_,_,_,o,_,_,e,ex,_⟩:=I.hok p _ hk;exact ⟨o,e,ex⟩
     obtain ⟨o,e,ex⟩:=z;refine ⟨⟨o,e,ex.1⟩,fun a e2=>?_⟩;cases e2;exact ⟨o,e,ex.2.1⟩
   . obtain ⟨o,_,_,_,e,ex,_⟩:=I.hok p _ hk;refine ⟨⟨o,e,ex.1⟩,fun a e2=>?_⟩;cases e2;exact ⟨o,e,ex.2.1⟩
 | _=>exact False.elim ty
def PU (K:PySem.W.Frag) (T:String) (r:V->List V->Hp->VK->Prop) (to:TE):TE:=fun σ H Q=>to σ H fun x H1=>tyV K T x H1/\r x [] H1 Q
def tBM (K:PySem.W.Frag) (T:String) (r:V->List V->Hp->VK->Prop) (to:TE) (t:TA):TE:=fun σ H Q=>to σ H fun x H1=>tyV K T x H1/\t σ H1 fun xs H2=>r x xs H2 Q
variable {o e:Expr} {es:List Expr} {to:TE} {t:TA} {name:Str} {apos cpos:Pos} {T id:String} {r:V->List V->Hp->VK->Prop}
theorem B5 (pa:PlainAttrs T) (slot:Slot T name id) (hty:typeOf (.builtin id)=pure (.type "method_descriptor")) (hm:MtR X id r) (ho:PE X o to)
   (hbase:attributeBase o name X.env (eval o X.env)=eval o X.env:=by rfl) (hline:(apos.endLine == cpos.line)=true:=by rfl):PE X (.Call (.Attribute o name apos) [] [] cpos) (PU X.K T r to):=by
 intro pins s σ H Q I h;refine wpAny_Call_method0_late hbase hline (bx (ho pins s σ H _ I h) fun v s1 x H1 I1 r1 ⟨ty,q1⟩=>?_);obtain ⟨h1,h2⟩:=Nw I1 r1 ty;exact ⟨T,id,pa,slot,hty,h1,h2,Calls.callWith_builtin rfl (PySem.evalArgs_none (hm pins s1 σ H1 x [] v [] Q I1 r1 .nil q1))⟩
theorem gh (pa:PlainAttrs T) (slot:Slot T name id) (hty:typeOf (.builtin id)=pure (.type "method_descriptor")) (hm:MtR X id r) (ho:PE X o to) (ha:PA X (e::es) t)
   (hbase:attributeBase o name X.env (eval o X.env)=eval o X.env:=by rfl)
   (hfew:((backTo cpos (starEach (e::es) X.env)).all (fun x=>!x.1) && (backToKw cpos (keywordEach [] X.env)).all (fun x=>x.1.isSome)
     && decide ((e::es).length+([]:List Keyword).length+(if ([]:List Keyword).isEmpty then 0 else 1)<30))=true:=by rfl)
   (hline:(apos.endLine == cpos.line)=true:=by rfl) (hs:starEach (e::es) X.env=(false,eval e X.env)::starEach es X.env:=by rfl) (hplain:(backTo cpos (starEach es X.env)).any (·.1)=false:=by rfl) :
   PE X (.Call (.Attribute o name apos) (e::es) [] cpos) (tBM X.K T r to t):=by
 intro pins s σ H Q I h;refine wpAny_Call_method_late hbase hfew hline rfl (bx (ho pins s σ H _ I h) fun v s1 x H1 I1 r1 ⟨ty,q1⟩=>?_);obtain ⟨h1,h2⟩:=Nw I1 r1 ty;refine ⟨T,id,pa,slot,hty,h1,h2,?_⟩;have hA:=ha cpos pins s1 σ H1 _ I1 q1;rw [hs] at hA ⊢;refine Calls.callWith_builtin (by show (false || (backTo cpos (starEach es X.env)).any (·.1))=false;rw [hplain] <;> rfl) (Calls.evalArgs_plain ?_);exact thn hA fun us s2 ⟨vs,H2,I2,r2,q2⟩=>hm pins s2 σ H2 x vs v us Q I2 r1 r2 q2
end
end L2
namespace L2
open PySem PySem.Spec PyProof.Rows
def MtM (X:Cx) (id:String) (r:V->List V->Hp->VK->Prop):Prop :=
 ∀ (pins:List (Addr × Obj)) (s:Shared) (σ:St) (H:Hp) (x:V) (xs:List V) (v:Value) (us:List Value) (Q:VK),Inv X pins σ H s->RelV x v->Vals xs us->r x xs H Q ->
   wpAny (model X.prog X.w) X.A (call (.builtin id) (v::us)) (EP X pins σ Q) X.xe s
theorem Vals.one {x:V} {us:List Value} (h:Vals [x] us):∃ u,us=[u]/\RelV x u:=by
 cases h with
 | cons r t=>cases t;exact ⟨_,rfl,r⟩
theorem Vals.two {x y:V} {us:List Value} (h:Vals [x,y] us):∃ u v,us=[u,v]/\RelV x u/\RelV y v:=by
 cases h with
 | cons r t =>
   obtain ⟨v,e,q⟩:=Vals.one t;subst e;exact ⟨_,v,rfl,r,q⟩
theorem Vals.zero:∀ {us:List Value},Vals [] us->us=[]
 | _,.nil=>rfl
theorem Vals.dropLast {xs:List V} {us:List Value} (h:Vals xs us):Vals xs.dropLast us.dropLast:=by
 induction h with
 | nil=>exact .nil
 | cons r t ih =>
   cases t with
   | nil=>exact .nil
   | cons q t'=>exact .cons r ih
theorem Vals.reverse {xs:List V} {us:List Value} (h:Vals xs us):Vals xs.reverse us.reverse:=by
 induction h with
 | nil=>exact .nil
 | cons r t ih=>rw [List.reverse_cons,List.reverse_cons];exact Vals.append ih (.cons r .nil)
theorem Vals.rep {xs:List V} {us:List Value} (h:Vals xs us):∀ k:Nat,Vals (List.replicate k xs).flatten (List.replicate k us).flatten
 | 0=>.nil
 | k+1=>by
   rw [List.replicate_succ,List.replicate_succ,List.flatten_cons,List.flatten_cons];exact Vals.append h (Vals.rep h k)
theorem Md {α:Type} (l:List α):l.eraseIdx (l.length - 1)=l.dropLast:=by
 induction l with
 | nil=>rfl
 | cons a r ih =>
   cases r with
   | nil=>rfl
   | cons b r =>
     have e:(a::b::r).length - 1=((b::r).length - 1)+1:=by
       have h1:(a::b::r).length=r.length+2:=rfl;have h2:(b::r).length=r.length+1:=rfl;omega
     rw [e,List.eraseIdx_cons_succ,ih]
     all_goals rfl
theorem D7 (its:List Value):∀ (k:Nat) (acc:List Value),
   List.foldl (fun x1 x2=>x1++x2) acc.toArray (List.replicate k its.toArray)=(acc++(List.replicate k its).flatten).toArray
 | 0,acc=>by simp
 | k+1,acc=>by
   have e:acc.toArray++its.toArray=(acc++its).toArray:=by simp
   have e2:(acc++its)++(List.replicate k its).flatten=acc++(List.replicate (k+1) its).flatten:=by
     rw [List.replicate_succ,List.flatten_cons,List.append_assoc]
   rw [<- e2,<- D7 its k (acc++its),<- e,List.replicate_succ,List.foldl_cons]
section
variable {X:Cx} {pins:List (Addr × Obj)} {σ:St} {H:Hp} {s:Shared} {l b:Addr} {xs ys zs:List V}
theorem Inv.lset {its its':List Value} {n:Nat} {f:Array Value->Array Value} {t':Nat} (I:Inv X pins σ H s) (hH:H l=some (.lst xs))
   (e:s.heap.get? l=some { cls:=.type "list",data:=.seq its.toArray n }) (hf:f its.toArray=its'.toArray) (hv:Vals ys its') (hz:ys.length<=sizeLine) :
   Inv X pins σ (upd H l (.lst ys)) { s with heap:=s.heap.update l (Obj.mapSeq f),toks:=t' }:=by
 have q:=PySem.IsL.update e f;rw [hf] at q;refine I.write (x:=l) (e:=l) (by rw [hH];exact trivial) (.inl rfl) (fun b' u hb hu=>(Heap.get?_update_other s.heap (Obj.mapSeq f) (Ne.symm hb)).trans hu) ⟨_,q⟩ ?_;exact ⟨hz,its',_,hv,q⟩
theorem Inv.lnew {its:List Value} {t':Nat} (I:Inv X pins σ H s) (hv:Vals ys its) (hz:ys.length<=sizeLine) :
   Inv X pins σ (upd H s.heap.objs.size (.lst ys)) { s with heap:=s.heap.push { cls:=.type "list",data:=.seq its.toArray },toks:=t' } :=
 I.laid (fun _ _ q=>Heap.get?_push_of_some _ q) (Nat.le_refl _) ⟨hz,its,0,hv,Heap.get?_push_size _ rfl⟩
theorem Inv.fresh (I:Inv X pins σ H s):H s.heap.objs.size=none:=I.hok.fresh (Nat.le_refl _)
theorem Inv.lstM (I:Inv X pins σ H s) (hH:H l=some (.lst xs)):xs.length<=sizeLine/\∃ (its:List Value) (n:Nat),Vals xs its/\xs.length=its.length/\s.heap.get? l=some { cls:=.type "list",data:=.seq its.toArray n }:=by
 obtain ⟨z,its,n,r,e⟩:=I.hok l _ hH;exact ⟨z,its,n,r,r.length,e⟩
theorem G6 {n:Nat} (h:n<=sizeLine):Builtin.List.listTooLong n=false:=by
 unfold Builtin.List.listTooLong;exact decide_eq_false (by omega)
end
section
variable {X:Cx}
def rAppend:V->List V->Hp->VK->Prop:=fun x vs H Q=>∃ l xs y,x=.ref l/\vs=[y]/\H l=some (.lst xs)/\xs.length<sizeLine/\Q .non (upd H l (.lst (xs++[y])))
theorem cG:MtM X "list.append" rAppend:=by
 intro pins s σ H x vs v us Q I rx rv h;obtain ⟨l,xs,y,rfl,rfl,hH,hz,q⟩:=h;cases rx;obtain ⟨u,rfl,ru⟩:=rv.one;obtain ⟨z,its,n,r,hl,e⟩:=I.lstM hH;refine call_meets F.slot_list_append ⟨_,e,rfl⟩ F.entry_list_append (F.args_list_append_2 _ _) (PySem.list_append l its.toArray n u (by rw [List.size_toArray];omega)) ⟨e,?_⟩;refine ⟨.non,_,I.lset (its':=its++[u]) hH e (by simp) (r.append (.cons ru .nil)) ?_,rfl,q⟩;rw [List.length_append,List.length_singleton];omega
def rExtend:V->List V->Hp->VK->Prop:=fun x vs H Q=>∃ l b xs zs,x=.ref l/\vs=[.ref b]/\H l=some (.lst xs)/\H b=some (.lst zs)/\xs.length+zs.length<=sizeLine/\Q .non (upd H l (.lst (xs++zs)))
theorem Ez:MtM X "list.extend" rExtend:=by
 intro pins s σ H x vs v us Q I rx rv h;obtain ⟨l,b,xs,zs,rfl,rfl,hH,hB,hz,q⟩:=h;cases rx;obtain ⟨u,rfl,ru⟩:=rv.one;cases ru;obtain ⟨z,its,n,r,hl,e⟩:=I.lstM hH;obtain ⟨z2,its2,n2,r2,hl2,e2⟩:=I.lstM hB;have hsz:its.toArray.size+its2.toArray.size<=sizeLine:=by rw [List.size_toArray,List.size_toArray];omega
 have hlong:¬ (!its.toArray.isEmpty && Builtin.List.listTooLong (its.toArray.size+its2.toArray.size))=true:=by
   rw [G6 hsz,Bool.and_false];exact Bool.false_ne_true
 refine call_meets F.slot_list_extend ⟨_,e,rfl⟩ F.entry_list_extend (F.args_list_extend_2 _ _)
   (AutoSeq1.list_extend_list_list_0 l its.toArray n b its2.toArray n2 hlong (by rw [List.size_toArray];omega) (by omega)) ⟨e,e2,?_⟩
 refine ⟨.non,_,I.lset (its':=its++its2) hH e (by simp) (r.append r2) ?_,rfl,q⟩;rw [List.length_append];omega
def rPop:V->List V->Hp->VK->Prop:=fun x vs H Q=>∃ l xs y,x=.ref l/\vs=[]/\H l=some (.lst xs)/\xs[xs.length - 1]?=some y/\Q y (upd H l (.lst xs.dropLast))
theorem CB:MtM X "list.pop" rPop:=by
 intro pins s σ H x vs v us Q I rx rv h;obtain ⟨l,xs,y,rfl,rfl,hH,hy,q⟩:=h;cases rx;have hus:=rv.zero;subst hus;obtain ⟨z,its,n,r,hl,e⟩:=I.lstM hH;obtain ⟨u,hu,ru⟩:=r.get hy;have hy':its.toArray[its.toArray.size - 1]?=some u:=by
   show its.toArray[its.length - 1]?=some u;rw [<- Array.getElem?_toList,<- hl];exact hu
 refine call_meets F.slot_list_pop ⟨_,e,rfl⟩ F.entry_list_pop (F.args_list_pop_1 _) (MeetsSeq.list_pop_last l its.toArray n u hy' (by rw [List.size_toArray];omega)) ⟨e,?_⟩;refine ⟨y,_,I.lset (its':=its.dropLast) hH e ?_ r.dropLast ?_,ru,q⟩
 . show its.toArray.eraseIdxIfInBounds (its.toArray.size - 1)=its.dropLast.toArray;rw [List.size_toArray,List.eraseIdxIfInBounds_toArray,Md]
 . rw [List.length_dropLast];omega
def rCat:R2:=fun x y H Q=>∃ l b xs zs,x=.ref l/\y=.ref b/\H l=some (.lst xs)/\H b=some (.lst zs)/\xs.length+zs.length<=sizeLine/\∀ p,H p=none->Q (.ref p) (upd H p (.lst (xs++zs)))
theorem Ti:OpR X (binaryOp .Add) rCat:=by
 intro pins s σ H x y v u Q I rx ry h;obtain ⟨l,b,xs,zs,rfl,rfl,hH,hB,hz,q⟩:=h;cases rx;cases ry;obtain ⟨z,its,n,r,hl,e⟩:=I.lstM hH;obtain ⟨z2,its2,n2,r2,hl2,e2⟩:=I.lstM hB;refine PySem.P.add_list e e2 ?_ (by rw [List.size_toArray,List.size_toArray];omega);have ea:its.toArray++its2.toArray=(its++its2).toArray:=by simp
 rw [ea];exact ⟨.ref _,_,I.lnew (t':=s.toks) (r.append r2) (by rw [List.length_append];omega),rfl,q _ I.fresh⟩
def rRep:R2:=fun x y H Q=>∃ l k xs,x=.ref l/\y=.int k/\H l=some (.lst xs)/\-(2^63)<=k/\k<2^63/\xs.length*k.toNat<=sizeLine /\
 ∀ p,H p=none->Q (.ref p) (upd H p (.lst (List.replicate k.toNat xs).flatten))
theorem SG {α:Type} (xs:List α) (k:Nat):(List.replicate k xs).flatten.length=k*xs.length:=by
 induction k with
 | zero=>simp
 | succ k ih=>rw [List.replicate_succ,List.flatten_cons,List.length_append,ih,Nat.succ_mul,Nat.add_comm]
theorem yg:OpR X (binaryOp .Mult) rRep:=by
 intro pins s σ H x y v u Q I rx ry h;obtain ⟨l,k,xs,rfl,rfl,hH,h1,h2,hz,q⟩:=h;cases rx;obtain ⟨t,rfl⟩:=ry;obtain ⟨z,its,n,r,hl,e⟩:=I.lstM hH;have hlen:its.toArray.size*k.toNat<=sizeLine:=by rw [List.size_toArray,<- hl];exact hz
 have hcap:¬ its.toArray.size*k.toNat > (2^63 - 1) / 8:=by
   have:(sizeLine:Nat)<=(2^63 - 1) / 8:=by decide
   omega
 have hfit:¬ (!Builtin.List.listFitsIndex k)=true:=by
   rw [fitsIndex_both h1 h2];exact Bool.false_ne_true
 have hlong:¬ Builtin.List.listTooLong (its.toArray.size*k.toNat)=true:=by
   rw [G6 hlen];exact Bool.false_ne_true
 have hnew:List.foldl (fun x1 x2=>x1++x2) #[] (List.replicate (if its.toArray.isEmpty=true then 0 else k.toNat) its.toArray)=(List.replicate k.toNat its).flatten.toArray:=by
   have f0:∀ m:Nat,List.foldl (fun x1 x2=>x1++x2) #[] (List.replicate m its.toArray)=(List.replicate m its).flatten.toArray:=fun m=>by
     have:=D7 its m [];rw [List.nil_append] at this;exact this
   rw [f0];cases its with
   | nil=>simp
   | cons a r'=>rw [if_neg (by simp)]
 refine wpAny_binaryOp_repeat_ref (T:="list") (U:="int") (by decide) ⟨_,e,rfl⟩ (fun s'=>typeIs_int s' k t) noFill_list_mul F.fills_int_mul F.slot_int_rmul repeat_list F.slot_int_index.lookup
   (call_meets F.slot_int_rmul (typeIs_int s k t) F.entry_int_rmul (F.args_int_rmul_2 _ _) (int___rmul___int_list k t l its.toArray n)
     ⟨e,rfl,⟨_,e,rfl⟩,call_meets F.slot_list_mul ⟨_,e,rfl⟩ F.entry_list_mul (F.args_list_mul_2 _ _) (AutoListH.list___mul___list_int_3 l its.toArray n k t hfit hcap hlong) ⟨e,?_⟩⟩)
 rw [hnew];exact ⟨.ref _,_,I.lnew (t':=s.toks) (r.rep k.toNat) (by rw [SG,Nat.mul_comm];exact hz),rfl,q _ I.fresh⟩
end
section
variable {prog:Program} {w:World} {A:Around} {E:Value->Shared->Prop} {s:Shared}
set_option maxRecDepth 100000 in
end
end L2
namespace L2
open PySem PySem.Spec PyProof.Rows
section
variable {κ:Type} [DecidableEq κ]
def bQ (kvs:List (κ × V)) (k:κ):Option V:=(kvs.find? fun kv=>decide (kv.1=k)).map (·.2)
def cX (kvs:List (κ × V)) (k:κ) (v:V):List (κ × V) :=
 if (kvs.any fun kv=>decide (kv.1=k))=true then kvs.map (fun kv=>if kv.1=k then (kv.1,v) else kv) else kvs++[(k,v)]
theorem fe {p:κ × V} {r:List (κ × V)} {k:κ} (e:p.1=k):bQ (p::r) k=some p.2:=by simp [bQ,List.find?_cons,e]
theorem fh {p:κ × V} {r:List (κ × V)} {k:κ} (e:¬ p.1=k):bQ (p::r) k=bQ r k:=by simp [bQ,List.find?_cons,e]
theorem qV (k:κ):∀ kvs:List (κ × V),(kvs.any fun kv=>decide (kv.1=k))=(bQ kvs k).isSome
 | []=>rfl
 | p::r=>by
   rw [List.any_cons];by_cases e:p.1=k
   . simp only [fe e,decide_eq_true e,Bool.true_or,Option.isSome_some]
   . rw [fh e,decide_eq_false e,Bool.false_or];exact qV k r
theorem Fz (k j:κ) (y:V):∀ kvs:List (κ × V),bQ (kvs.map fun kv=>if kv.1=k then (kv.1,y) else kv) j=(bQ kvs j).map fun x=>if j=k then y else x
 | []=>rfl
 | p::r=>by
   have ih:=Fz k j y r;rw [List.map_cons];by_cases h:p.1=k
   . rw [if_pos h];by_cases e:p.1=j
     . rw [fe (p:=(p.1,y)) e,fe e,Option.map_some,if_pos (e.symm.trans h)]
     . rw [fh (p:=(p.1,y)) e,fh e,ih]
   . rw [if_neg h];by_cases e:p.1=j
     . rw [fe (p:=p) e,fe e,Option.map_some,if_neg (fun z=>h (e.trans z))]
     . rw [fh (p:=p) e,fh e,ih]
theorem Ed (k j:κ) (y:V):∀ kvs:List (κ × V),bQ kvs k=none->bQ (kvs++[(k,y)]) j=if j=k then some y else bQ kvs j
 | [],_=>by
   by_cases e:k=j
   . rw [if_pos e.symm];exact fe (p:=(k,y)) e
   . rw [if_neg (fun z=>e z.symm)];exact fh (p:=(k,y)) e
 | p::r,hn=>by
   rw [List.cons_append];have hk:¬ p.1=k:=fun z=>by rw [fe z] at hn;cases hn
   rw [fh hk] at hn;have ih:=Ed k j y r hn;by_cases e:p.1=j
   . rw [fe e,fe e,if_neg (fun z=>hk (e.trans z))]
   . rw [fh e,fh e,ih]
theorem qG (kvs:List (κ × V)) (k j:κ) (y:V):bQ (cX kvs k y) j=if j=k then some y else bQ kvs j:=by
 unfold cX;by_cases a:(kvs.any fun kv=>decide (kv.1=k))=true
 . rw [if_pos a,Fz];rw [qV] at a;by_cases e:j=k
   . obtain ⟨x,hx⟩:=Option.isSome_iff_exists.mp a;rw [if_pos e,e,hx,Option.map_some,if_pos rfl]
   . rw [if_neg e];cases bQ kvs j with
     | none=>rfl
     | some x=>rw [Option.map_some,if_neg e]
 . rw [if_neg a];refine Ed k j y kvs ?_;rw [qV] at a;cases q:bQ kvs k with
   | none=>rfl
   | some x=>rw [q] at a;exact (a rfl).elim
theorem jp (kvs:List (κ × V)) (k:κ) (v:V):(cX kvs k v).length<=kvs.length+1:=by
 unfold cX;split
 . rw [List.length_map];omega
 . rw [List.length_append,List.length_cons,List.length_nil];omega
theorem FZ {kvs:List (κ × V)} {k:κ} (v:V) (h:bQ kvs k=none):cX kvs k v=kvs++[(k,v)]:=by
 unfold cX;rw [qV,h];exact if_neg (by decide)
theorem RelO.isSome_eq {o:Option V} {u:Option Value} (r:RelO o u):o.isSome=u.isSome:=by
 cases o with
 | none=>cases u with
   | none=>rfl
   | some _=>exact (show False from r).elim
 | some _=>cases u with
   | none=>exact (show False from r).elim
   | some _=>rfl
theorem KV.val {kvs:List (κ × V)} {vs:List (κ × Value)} (r:KV kvs vs) (k:κ):RelO (bQ kvs k) (valueAt vs k):=by
 unfold KV at r
 induction r with
 | nil=>exact True.intro
 | @cons p q ps qs h t ih =>
   obtain ⟨h1,h2⟩:=h;by_cases e:p.1=k
   . have e':q.1=k:=h1.symm.trans e;have b:valueAt (q::qs) k=some q.2:=(by simp [valueAt,List.find?_cons,e']);rw [fe e,b];exact h2
   . have e':¬ q.1=k:=fun z=>e (h1.trans z);have b:valueAt (q::qs) k=valueAt qs k:=(by simp [valueAt,List.find?_cons,e']);rw [fh e,b];exact ih
theorem KV.any {kvs:List (κ × V)} {vs:List (κ × Value)} (r:KV kvs vs) (k:κ):(kvs.any fun kv=>decide (kv.1=k))=vs.any fun kv=>decide (kv.1=k):=by
 unfold KV at r
 induction r with
 | nil=>rfl
 | cons h t ih=>rw [List.any_cons,List.any_cons,ih,h.1]
theorem KV.repl {kvs:List (κ × V)} {vs:List (κ × Value)} (r:KV kvs vs) (k:κ) {y:V} {u:Value} (ry:RelV y u) :
   KV (kvs.map fun kv=>if kv.1=k then (kv.1,y) else kv) (vs.map fun kv=>if kv.1=k then (kv.1,u) else kv):=by
 unfold KV at r ⊢
 induction r with
 | nil=>exact .nil
 | @cons p q ps qs h t ih =>
   rw [List.map_cons,List.map_cons];refine .cons ?_ ih;obtain ⟨h1,h2⟩:=h;by_cases e:p.1=k
   . rw [if_pos e,if_pos (h1.symm.trans e)];exact ⟨h1,ry⟩
   . rw [if_neg e,if_neg (fun z=>e (h1.trans z))];exact ⟨h1,h2⟩
theorem KV.put {kvs:List (κ × V)} {vs:List (κ × Value)} (r:KV kvs vs) (k:κ) {y:V} {u:Value} (ry:RelV y u):KV (cX kvs k y) (stored vs k u):=by
 unfold cX stored;rw [r.any k];by_cases e:(vs.any fun kv=>decide (kv.1=k))=true
 . rw [if_pos e,if_pos e];exact r.repl k ry
 . rw [if_neg e,if_neg e];exact Paired.snoc r ⟨rfl,ry⟩
theorem KV.length {kvs:List (κ × V)} {vs:List (κ × Value)} (r:KV kvs vs):kvs.length=vs.length:=Paired.length r
end
theorem yU {P:Program} {w:World} {k:Key} {u:Value} (r:RelV (kV k) u):(dH P w).is k u=true:=by
 cases k with
 | inl i=>obtain ⟨t,e⟩:=(show ∃ t,u=Value.int i t from r);subst e;exact JD P w i t
 | inr x=>obtain ⟨t,e⟩:=(show ∃ t,u=Value.str x t from r);subst e;exact IE P w x t
theorem Ee {P:Program} {w:World}:∀ {ks:List Key} {us:List Value},Vals (ks.map kV) us->ItemsAre (dH P w) ks us
 | [],_,r=>by rw [List.map_nil] at r;cases r;exact .nil
 | k::ks,_,r=>by
   rw [List.map_cons] at r;cases r with
   | cons h t=>exact .cons (yU h) (Ee t)
abbrev KT (H:Hp):List (List Key × V)->List (List Key × Addr × Value)->Prop:=Paired fun p q=>p.1=q.1/\H q.2.1=some (.tup (p.1.map kV))/\RelV p.2 q.2.2
theorem KT.val {H:Hp} {kvs:List (List Key × V)} {xs:List (List Key × Addr × Value)} (r:KT H kvs xs) (k:List Key):RelO (bQ kvs k) ((atKey xs k).map (·.2)):=by
 induction r with
 | nil=>exact True.intro
 | @cons p q ps qs h t ih =>
   obtain ⟨h1,_,h2⟩:=h;by_cases e:p.1=k
   . have e':q.1=k:=h1.symm.trans e;have b:atKey (q::qs) k=some q.2:=(by simp [atKey,List.find?_cons,e']);rw [fe e,b];exact h2
   . have e':¬ q.1=k:=fun z=>e (h1.trans z);have b:atKey (q::qs) k=atKey qs k:=(by simp [atKey,List.find?_cons,e']);rw [fh e,b];exact ih
theorem KT.repl {H:Hp} {kvs:List (List Key × V)} {xs:List (List Key × Addr × Value)} (r:KT H kvs xs) (k:List Key) {y:V} {u:Value} (ry:RelV y u) :
   KT H (kvs.map fun kv=>if kv.1=k then (kv.1,y) else kv) (xs.map (putAt k u)):=by
 induction r with
 | nil=>exact .nil
 | @cons p q ps qs h t ih =>
   rw [List.map_cons,List.map_cons];refine .cons ?_ ih;obtain ⟨h1,h2,h3⟩:=h;unfold putAt;by_cases e:p.1=k
   . rw [if_pos e,if_pos (h1.symm.trans e)];exact ⟨h1,h2,ry⟩
   . rw [if_neg e,if_neg (fun z=>e (h1.trans z))];exact ⟨h1,h2,h3⟩
theorem KT.put {H:Hp} {kvs:List (List Key × V)} {xs:List (List Key × Addr × Value)} (r:KT H kvs xs) (k:List Key) {b:Addr} {y:V} {u:Value} (hb:H b=some (.tup (k.map kV))) (ry:RelV y u) :
   KT H (cX kvs k y) (storedH xs k b u):=by
 have e:(kvs.any fun kv=>decide (kv.1=k))=(atKey xs k).isSome:=by
   rw [qV,(r.val k).isSome_eq,Option.isSome_map]
 unfold cX storedH;rw [e];by_cases q:(atKey xs k).isSome=true
 . rw [if_pos q,if_pos q];exact r.repl k ry
 . rw [if_neg q,if_neg q];exact Paired.snoc r ⟨rfl,hb,ry⟩
theorem KT.keeps {H H':Hp} {kvs:List (List Key × V)} {xs:List (List Key × Addr × Value)} (r:KT H kvs xs) (ht:∀ b ys,H b=some (.tup ys)->H' b=some (.tup ys)):KT H' kvs xs :=
 Paired.mapP r fun _ _ z=>⟨z.1,ht _ _ z.2.1,z.2.2⟩
section
variable {P:Program} {w:World} {H:Hp} {h:Heap} {a:Addr}
theorem RG {u:HO} (ok:HOk P w H h) (e:Rd H a u):ObjOk P w H h a u:=e.ok ok
theorem zb {kvs:List (Key × V)} (ok:HOk P w H h) (e:Rd H a (.dK kvs)):kvs.length<=sizeLine/\(a == sysModules)=false/\∃ vs,KV kvs vs/\h.DictOf (dH P w) a vs :=
 show ObjOk P w H h a (.dK kvs) from RG ok e
theorem RI {kvs:List (Key × V)} (ok:HOk P w H h) (e:H a=some (.dK kvs)):kvs.length<=sizeLine/\(a == sysModules)=false/\∃ vs,KV kvs vs/\h.DictOf (dH P w) a vs:=zb ok (.inl e)
theorem xF {ks:List Key} (ok:HOk P w H h) (e:H a=some (.tup (ks.map kV))):(tupleKind (dH P w)).is h ks a:=by
 obtain ⟨_,its,r,o,h1,h2,n,h3⟩:=(show ObjOk P w H h a (.tup (ks.map kV)) from ok a _ e);exact ⟨o,its.toArray,n,h1,h2,h3,by simpa using Ee r⟩
theorem Cn {kvs:List (List Key × V)} (ok:HOk P w H h) (e:Rd H a (.dT kvs)):kvs.length<=sizeLine/\(a == sysModules)=false /\
   ∃ xs,KT H kvs xs/\h.DictOfH (tupleKind (dH P w)) a xs:=by
 obtain ⟨z,y,xs,r,o,es,ep,h1,h2,h3,h4,h5⟩:=(show ObjOk P w H h a (.dT kvs) from RG ok e);refine ⟨z,y,xs,r,o,es,ep,h1,h2,h3,h4,fun x hx=>?_,h5⟩;have all:∀ {l:List (List Key × V)} {m:List (List Key × Addr × Value)},KT H l m->∀ x∈m,(tupleKind (dH P w)).is h x.1 x.2.1:=by
   intro l m q
   induction q with
   | nil=>intro x hx;exact nomatch hx
   | @cons p q ps qs hq t ih =>
     intro x hx;rcases List.mem_cons.mp hx with e|hx
     . subst e;exact xF ok (by rw [<- hq.1];exact hq.2.1)
     . exact ih x hx
 exact all r x hx
theorem UG {kvs:List (List Key × V)} (ok:HOk P w H h) (e:H a=some (.dT kvs)):kvs.length<=sizeLine/\(a == sysModules)=false /\
   ∃ xs,KT H kvs xs/\h.DictOfH (tupleKind (dH P w)) a xs:=Cn ok (.inl e)
end
def DGet (H:Hp) (a:Addr) (y:V) (r:Option V):Prop :=
 (∃ kvs k,Rd H a (.dK kvs)/\y=kV k/\r=bQ kvs k)\/∃ kvs k b,Rd H a (.dT kvs)/\y=.ref b/\H b=some (.tup (k.map kV))/\r=bQ kvs k
def DPut (H:Hp) (a:Addr) (y v:V) (H':Hp):Prop :=
 (∃ kvs k,H a=some (.dK kvs)/\y=kV k/\kvs.length<sizeLine/\H'=upd H a (.dK (cX kvs k v))) \/
 ∃ kvs k b,H a=some (.dT kvs)/\y=.ref b/\H b=some (.tup (k.map kV))/\kvs.length<sizeLine/\H'=upd H a (.dT (cX kvs k v))
theorem DGet.k {H:Hp} {a:Addr} {kvs:List (Key × V)} {k:Key} (e:H a=some (.dK kvs)):DGet H a (kV k) (bQ kvs k):=.inl ⟨kvs,k,.inl e,rfl,rfl⟩
theorem DGet.t {H:Hp} {a b:Addr} {kvs:List (List Key × V)} {k:List Key} (e:H a=some (.dT kvs)) (eb:H b=some (.tup (k.map kV))):DGet H a (.ref b) (bQ kvs k):=.inr ⟨kvs,k,b,.inl e,rfl,eb,rfl⟩
theorem DPut.k {H:Hp} {a:Addr} {kvs:List (Key × V)} {k:Key} {v:V} (e:H a=some (.dK kvs)) (hl:kvs.length<sizeLine):DPut H a (kV k) v (upd H a (.dK (cX kvs k v))):=.inl ⟨kvs,k,e,rfl,hl,rfl⟩
theorem DPut.t {H:Hp} {a b:Addr} {kvs:List (List Key × V)} {k:List Key} {v:V} (e:H a=some (.dT kvs)) (eb:H b=some (.tup (k.map kV))) (hl:kvs.length<sizeLine) :
   DPut H a (.ref b) v (upd H a (.dT (cX kvs k v))):=.inr ⟨kvs,k,b,e,rfl,eb,hl,rfl⟩
section
variable {X:Cx} {pins:List (Addr × Obj)} {σ:St} {H:Hp} {s:Shared} {a:Addr} {y v:V} {u r:Value} {o:Option V} {A:Around} {E:Value->Shared->Prop}
theorem Inv.big (I:Inv X pins σ H s):sysModules<s.heap.objs.size:=by
 have h:mainGlobals<s.heap.objs.size:=(I.mod.glob.keeps I.bk).lt;exact Nat.lt_trans (by decide) h
theorem MK {Q:Value->Shared->Prop} (hu:A.units+1<cLine) (I:Inv X pins σ H s) (g:DGet H a y (some v)) (ry:RelV y u) (h:∀ w' s',Inv X pins σ H s'->RelV v w'->Q w' s') :
   wpAny (model X.prog X.w) A (getItem (.ref a) u) Q E s:=by
 rcases g with ⟨kvs,k,e,ey,l⟩|⟨kvs,k,b,e,ey,eb,l⟩
 . subst ey;obtain ⟨z,hd,vs,rel,dd⟩:=zb I.hok e;obtain ⟨w',hw,rw'⟩:=RelO.some_of (v:=v) (o:=valueAt vs k) (by rw [l];exact rel.val k);exact wpAny_getItem_of (yU ry) dd.mapOf hw (h w' _ (I.tok _) rw')
 . subst ey;cases (show u=Value.ref b from ry);obtain ⟨z,hd,xs,rel,dd⟩:=Cn I.hok e;obtain ⟨w',hw,rw'⟩:=RelO.some_of (v:=v) (o:=(atKey xs k).map (·.2)) (by rw [l];exact rel.val k);obtain ⟨p,hp,hp2⟩:=Option.map_eq_some_iff.mp hw;refine wpAny_getItem_heap (tupleKind_room_in1 hu) (xF I.hok eb) dd hp ?_;rw [hp2];exact h w' _ (I.tok _) rw'
theorem UU {Q:Value->Shared->Prop} (hu:A.units+1<cLine) (I:Inv X pins σ H s) (g:DGet H a y o) (ry:RelV y u) (h:∀ s',Inv X pins σ H s'->Q (.bool o.isSome) s') :
   wpAny (model X.prog X.w) A (compareOp .In u (.ref a)) Q E s:=by
 rcases g with ⟨kvs,k,e,ey,l⟩|⟨kvs,k,b,e,ey,eb,l⟩
 . subst ey;obtain ⟨z,hd,vs,rel,dd⟩:=zb I.hok e;refine wpAny_in_of (yU ry) hd dd.mapOf ?_;rw [<- (rel.val k).isSome_eq,<- l];exact h _ (I.tok _)
 . subst ey;cases (show u=Value.ref b from ry);obtain ⟨z,hd,xs,rel,dd⟩:=Cn I.hok e;refine wpAny_in_heap (tupleKind_room_in1 hu) (xF I.hok eb) hd dd ?_;have q:=(rel.val k).isSome_eq;rw [Option.isSome_map] at q;rw [<- q,<- l];exact h _ (I.tok _)
theorem Sx {Q:Value->Shared->Prop} (hu:A.units+1<cLine) (I:Inv X pins σ H s) (g:DGet H a y o) (ry:RelV y u) (h:∀ s',Inv X pins σ H s'->Q (.bool (!o.isSome)) s') :
   wpAny (model X.prog X.w) A (compareOp .NotIn u (.ref a)) Q E s:=by
 rcases g with ⟨kvs,k,e,ey,l⟩|⟨kvs,k,b,e,ey,eb,l⟩
 . subst ey;obtain ⟨z,hd,vs,rel,dd⟩:=zb I.hok e;refine wpAny_notIn_of (yU ry) hd dd.mapOf ?_;rw [<- (rel.val k).isSome_eq,<- l];exact h _ (I.tok _)
 . subst ey;cases (show u=Value.ref b from ry);obtain ⟨z,hd,xs,rel,dd⟩:=Cn I.hok e;refine wpAny_notIn_heap (tupleKind_room_in1 hu) (xF I.hok eb) hd dd ?_;have q:=(rel.val k).isSome_eq;rw [Option.isSome_map] at q;rw [<- q,<- l];exact h _ (I.tok _)
theorem Dq {h':Heap} {t':Nat} {ob:HO} (I:Inv X pins σ H s) (mu:Mut (H a)) (hs:Heap.SameBut a s.heap h') (he:∃ q,h'.get? a=some q) (new:ObjOk X.prog X.w (upd H a ob) h' a ob) :
   Inv X pins σ (upd H a ob) { s with heap:=h',toks:=t' } :=
 I.write (x:=a) (e:=a) mu (.inl rfl) (fun b q hb z=>(hs.2 b hb).trans z) he new
theorem Nf {P:Program} {w:World} {H':Hp} {h':Heap} {kvs:List (Key × V)} {vs:List (Key × Value)} (z:kvs.length<=sizeLine) (hd:(a == sysModules)=false) (rel:KV kvs vs) (dd:h'.DictOf (dH P w) a vs) :
   ObjOk P w H' h' a (.dK kvs):=⟨z,hd,vs,rel,dd⟩
theorem MV {H':Hp} {Q:Unit->Shared->Prop} (hu:A.units+1<cLine) (I:Inv X pins σ H s) (g:DPut H a y v H') (ry:RelV y u) (rv:RelV v r) (h:∀ s',Inv X pins σ H' s'->Q () s') :
   wpAny (model X.prog X.w) A (setItem (.ref a) u r) Q E s:=by
 rcases g with ⟨kvs,k,e,ey,l,eH⟩|⟨kvs,k,b,e,ey,eb,l,eH⟩
 . subst ey eH;obtain ⟨z,hd,vs,rel,dd⟩:=RI I.hok e;have hz:vs.length<=sizeLine:=by rw [<- rel.length];exact z
   have hl:(cX kvs k v).length<=sizeLine:=by have:=jp kvs k v;omega
   refine wpAny_setItem_pairs (hsz:=hz) (yU ry) dd fun h' dd' hs=>h _ ?_;have he:∃ q,h'.get? a=some q:=let ⟨q,_,_,hq,_⟩:=dd';⟨q,hq⟩;exact Dq I (by rw [e];exact True.intro) hs he (Nf hl hd (rel.put k rv) dd')
 . subst ey eH;cases (show u=Value.ref b from ry);obtain ⟨z,hd,xs,rel,dd⟩:=UG I.hok e;have hz:xs.length<=sizeLine:=by rw [<- Paired.length rel];exact z
   have hl:(cX kvs k v).length<=sizeLine:=by have:=jp kvs k v;omega
   refine wpAny_setItem_heap (hsz:=hz) (tupleKind_room_in1 hu) (xF I.hok eb) dd fun h' dd' hs=>h _ ?_;obtain ⟨q,es,ep,hq,h2,h3,h4,_,h5⟩:=dd';refine Dq I (by rw [e];exact True.intro) hs ⟨q,hq⟩ ⟨hl,hd,_,(rel.put k eb rv).keeps fun c ys ec=>?_,q,es,ep,hq,h2,h3,h4,h5⟩;rw [ao (dh ec e (fun z=>nomatch z))];exact ec
end
section
variable {X:Cx} {pins:List (Addr × Obj)} {σ:St} {H:Hp} {s:Shared} {a:Addr} {kvs:List (Key × V)} {k:Key} {u:Value} {A:Around} {E:Value->Shared->Prop}
theorem UI {Q:Value->Shared->Prop} (I:Inv X pins σ H s) (e:Rd H a (.dK kvs)) (h:∀ t s',Inv X pins σ H s'->Q (.int kvs.length t) s'):wpAny (model X.prog X.w) A (call (.builtin "len") [.ref a]) Q E s:=by
 obtain ⟨z,hd,vs,rel,dd⟩:=zb I.hok e;refine call_len_dict hd dd (by rw [<- rel.length];rw [sizeLine_eq] at z;omega) ?_;rw [<- rel.length];exact h _ _ (I.tok _)
end
def Ul (i:Expr):Prop:=∀ ov iv,subscripted i false ov iv=operate [ov,iv] (getItem ov iv)
theorem SM {prog:Program} {w:World} {A:Around} {E:Value->Shared->Prop} {s:Shared} {env:Env} {value slice:Expr} {pos:Pos} {T id:String} {Q:Value->Shared->Prop}
   (hl:typeLookup (.type T) "__getitem__"=pure (some (.builtin id))) (hs:Ul slice)
   (h:wpAny (model prog w) A (eval value env) (fun o s₁=>wpAny (model prog w) A (eval slice env) (fun i s₂=>s₂.TypeIs o T/\wpAny (model prog w) A (getItem o i) Q E s₂) E s₁) E s) :
   wpAny (model prog w) A (eval (.Subscript value slice pos) env) Q E s:=by
 refine Subscript_ (wpAny_mono h (fun o s₁ h₁=>wpAny_mono h₁ (fun i s₂ h₂=>?_) fun _ _ x=>x) fun _ _ x=>x);obtain ⟨hT,h₂⟩:=h₂;unfold subscriptTail;refine wpAny_bind ?_;rw [getitemInPython_of_ne hT.not_modules];refine wpAny_bind (wpAny_specialOf hT hl ?_);have fin:wpAny (model prog w) A (subscripted slice false o i) (fun r s₃=>wpAny (model prog w) A (letTemporaryGo value o r >>= fun _=>pure r) Q E s₃) E s₂:=by
   rw [hs o i];exact wpAny_operating (wpAny_mono h₂ (fun r s₃ h₃=>wpAny_bind (wpAny_letTemporaryGo (wpAny_pure h₃))) fun _ _ x=>x)
 first
   | exact wpAny_pure (wpAny_bind fin)
   | exact wpAny_bind (wpAny_pure (wpAny_bind fin))
   | exact wpAny_bind fin
theorem Ir {X:Cx} {pins:List (Addr × Obj)} {σ:St} {H:Hp} {s:Shared} {a:Addr} {y:V} {o:Option V} (I:Inv X pins σ H s) (g:DGet H a y o):s.TypeIs (.ref a) "dict":=by
 rcases g with ⟨kvs,k,e,_,_⟩|⟨kvs,k,b,e,_,_,_⟩
 . obtain ⟨_,_,vs,_,dd⟩:=zb I.hok e;exact dd.typeIs
 . obtain ⟨_,_,xs,_,dd⟩:=Cn I.hok e;exact dd.typeIs
def Mn (td ty:TE):TE:=fun σ H Q=>td σ H fun x H1=>ty σ H1 fun y H2=>∃ a v,x=.ref a/\DGet H2 a y (some v)/\Q v H2
def OG (ty td:TE):TE:=fun σ H Q=>ty σ H fun y H1=>td σ H1 fun x H2=>∃ a o,x=.ref a/\DGet H2 a y o/\Q (.bl o.isSome) H2
def DB (ty td:TE):TE:=fun σ H Q=>ty σ H fun y H1=>td σ H1 fun x H2=>∃ a o,x=.ref a/\DGet H2 a y o/\Q (.bl (!o.isSome)) H2
def KQ (td ty tv:TE):TS:=fun D σ H=>tv σ H fun v H1=>td σ H1 fun x H2=>ty σ H2 fun y H3=>∃ a H4,x=.ref a/\DPut H3 a y v H4/\D.nx σ H4
section
variable {X:Cx} {o i e value:Expr} {pos pos' tpos:Pos} {td ty tv:TE}
theorem oh (hu:X.A.units+1<cLine) (ho:PE X o td) (hi:PE X i ty) (hs:Ul i):PE X (.Subscript o i pos) (Mn td ty):=by
 intro pins s σ H Q I h;refine SM PySem.F.slot_dict_getitem.lookup hs (bx (ho pins s σ H _ I h) fun u s1 x H1 I1 rx q1=>bx (hi pins s1 σ H1 _ I1 q1) fun iv s2 y H2 I2 ry ⟨a,v,ex,g,q2⟩=>?_);subst ex;obtain rfl:u=Value.ref a:=rx;exact ⟨Ir I2 g,MK hu I2 g ry fun w' s3 I3 rw'=>⟨v,H2,I3,rw',q2⟩⟩
theorem TB (hu:X.A.units+1<cLine) (hi:PE X i ty) (ho:PE X o td):PC X .In i o (OG ty td):=by
 intro pins s σ H Q I h;refine bx (hi pins s σ H _ I h) fun iv s1 y H1 I1 ry q1=>bx (ho pins s1 σ H1 _ I1 q1) fun u s2 x H2 I2 rx ⟨a,ov,ex,g,q2⟩=>?_;subst ex;obtain rfl:u=Value.ref a:=rx;exact UU hu I2 g ry fun s3 I3=>⟨.bl ov.isSome,H2,I3,rfl,q2⟩
theorem En (hu:X.A.units+1<cLine) (hi:PE X i ty) (ho:PE X o td):PC X .NotIn i o (DB ty td):=by
 intro pins s σ H Q I h;refine bx (hi pins s σ H _ I h) fun iv s1 y H1 I1 ry q1=>bx (ho pins s1 σ H1 _ I1 q1) fun u s2 x H2 I2 rx ⟨a,ov,ex,g,q2⟩=>?_;subst ex;obtain rfl:u=Value.ref a:=rx;exact Sx hu I2 g ry fun s3 I3=>⟨.bl (!ov.isSome),H2,I3,rfl,q2⟩
theorem uf (hu:X.A.units+1<cLine) (ho:PE X o td) (hi:PE X i ty) (hv:PE X value tv) (hs:swapsWith value (some (.Subscript o i pos')) pos.line X.env=pure false) :
   PS X (.Assign [.Subscript o i pos'] value pos) (KQ td ty tv):=by
 intro pins s σ H D I h;refine wpAny_Assign_Subscript (bx (hv pins s σ H _ I h) fun r s1 v H1 I1 rv q1=>bx (ho pins s1 σ H1 _ I1 q1) fun u s2 x H2 I2 rx q2=>bx (hi pins s2 σ H2 _ I2 q2) fun iv s3 y H3 I3 ry ⟨a,H4,ex,g,q3⟩=>?_) hs;subst ex;obtain rfl:u=Value.ref a:=rx;exact MV hu I3 g ry rv fun s4 I4=>⟨σ,H4,I4,q3⟩
end
theorem HA {P:Program} {w:World} {H:Hp} (h:Heap) (hb:sysModules<h.objs.size):ObjOk P w H (h.push { cls:=.type "dict",data:=.dict #[] }) h.objs.size (.dK []) :=
 ⟨Nat.zero_le _,beq_eq_false_iff_ne.mpr (Ne.symm (Nat.ne_of_lt hb)),[],.nil,Heap.DictOf.new h⟩
theorem OT {P:Program} {w:World} {H:Hp} (h:Heap) (hb:sysModules<h.objs.size):ObjOk P w H (h.push { cls:=.type "dict",data:=.dict #[] }) h.objs.size (.dT []) :=
 ⟨Nat.zero_le _,beq_eq_false_iff_ne.mpr (Ne.symm (Nat.ne_of_lt hb)),[],.nil,_,#[],0,Heap.get?_push_size _ rfl,⟨rfl,rfl,rfl⟩,rfl,rfl,List.nodup_nil⟩
def tDNewK:TE:=fun _ H Q=>∀ p,H p=none->Q (.ref p) (upd H p (.dK []))
def tDNewT:TE:=fun _ H Q=>∀ p,H p=none->Q (.ref p) (upd H p (.dT []))
section
variable {X:Cx} {pos:Pos}
theorem Rs:PE X (.Dict [] [] pos) tDNewK:=fun pins s σ H Q I h =>
 wpAny_Dict_empty ⟨.ref s.heap.objs.size,_,I.laid (a:=s.heap.objs.size) (o:=.dK []) (t':=s.toks) (fun _ _ q=>Heap.get?_push_of_some _ q) (Nat.le_refl _) (HA s.heap I.big),rfl,h _ (I.hok.fresh (Nat.le_refl _))⟩
theorem HF:PE X (.Dict [] [] pos) tDNewT:=fun pins s σ H Q I h =>
 wpAny_Dict_empty ⟨.ref s.heap.objs.size,_,I.laid (a:=s.heap.objs.size) (o:=.dT []) (t':=s.toks) (fun _ _ q=>Heap.get?_push_of_some _ q) (Nat.le_refl _) (OT s.heap I.big),rfl,h _ (I.hok.fresh (Nat.le_refl _))⟩
end
def uz:List (TE × TE)->St->Hp->(List (V × V)->Hp->Prop)->Prop
 | [],_,H,Q=>Q [] H
 | (tk,tv)::r,σ,H,Q=>tk σ H fun x H1=>tv σ H1 fun y H2=>uz r σ H2 fun ps H3=>Q ((x,y)::ps) H3
abbrev VV:List (V × V)->List (Value × Value)->Prop:=Paired fun p q=>RelV p.1 q.1/\RelV p.2 q.2
def PPs (X:Cx) (pos:Pos) (keys:List (Option Expr)) (values:List Expr) (trs:List (TE × TE)):Prop :=
 ∀ (pins:List (Addr × Obj)) (s:Shared) (σ:St) (H:Hp) (Q:List (V × V)->Hp->Prop),Inv X pins σ H s->uz trs σ H Q ->
   wpAny (model X.prog X.w) X.A (evalPairs (pairTrees keys values X.env pos)) (fun vs s'=>∃ ps H',Inv X pins σ H' s'/\VV ps vs/\Q ps H') X.xe s
theorem Su {X:Cx} {pos:Pos}:PPs X pos [] [] []:=fun pins s σ H Q I h=>pairTrees_nil_walk ⟨[],H,I,.nil,h⟩
theorem OD {X:Cx} {pos:Pos} {k v:Expr} {ks:List (Option Expr)} {vs:List Expr} {tk tv:TE} {trs:List (TE × TE)} (hk:PE X k tk) (hv:PE X v tv) (hr:PPs X pos ks vs trs) :
   PPs X pos (some k::ks) (v::vs) ((tk,tv)::trs):=fun pins s σ H Q I h =>
 pairTrees_cons_walk (bx (hk pins s σ H _ I h) fun u s1 x H1 I1 rx q1=>bx (hv pins s1 σ H1 _ I1 q1) fun w2 s2 y H2 I2 ry q2 =>
   thn (hr pins s2 σ H2 _ I2 q2) fun ws s3 ⟨ps,H3,I3,rel,q3⟩=>⟨(x,y)::ps,H3,I3,.cons ⟨rx,ry⟩ rel,q3⟩)
def uN (kvs more:List (Key × V)):List (Key × V):=more.foldl (fun acc kv=>cX acc kv.1 kv.2) kvs
theorem KV.merge:∀ {more:List (Key × V)} {rs:List (Key × Value)} {kvs:List (Key × V)} {vs:List (Key × Value)},KV more rs->KV kvs vs->KV (uN kvs more) (merged vs rs):=by
 intro more rs kvs vs r;unfold KV at r
 induction r generalizing kvs vs with
 | nil=>intro q;exact q
 | @cons p q ps qs h t ih =>
   intro r0;have e:KV (cX kvs p.1 p.2) (stored vs q.1 q.2):=by
     have:=r0.put p.1 h.2;rw [<- h.1];exact this
   exact ih e
theorem wQ:∀ (more kvs:List (Key × V)),(uN kvs more).length<=kvs.length+more.length
 | [],kvs=>by show kvs.length<=kvs.length+0;omega
 | p::r,kvs=>by
   have h1:=wQ r (cX kvs p.1 p.2);have h2:=jp kvs p.1 p.2;show (uN (cX kvs p.1 p.2) r).length<=_;rw [List.length_cons];omega
theorem BD {P:Program} {w:World}:∀ {kvs:List (Key × V)} {ws:List (Value × Value)},VV (kvs.map fun kv=>(kV kv.1,kv.2)) ws->∃ rs,Carries (dH P w) ws rs/\KV kvs rs
 | [],_,r=>by rw [List.map_nil] at r;cases r;exact ⟨[],True.intro,.nil⟩
 | p::kvs,_,r=>by
   rw [List.map_cons] at r;cases r with
   | @cons a b as bs h t =>
     obtain ⟨rs,c,q⟩:=BD (P:=P) (w:=w) t;obtain ⟨b1,b2⟩:=b;exact ⟨(p.1,b2)::rs,⟨yU h.1,rfl,c⟩,.cons ⟨rfl,h.2⟩ q⟩
def Lk (trs:List (TE × TE)):TE:=fun σ H Q=>∀ p,H p=none->uz trs σ (upd H p (.dK [])) fun ps H2=>H2 p=some (.dK [])/\∃ kvs:List (Key × V),ps=kvs.map (fun kv=>(kV kv.1,kv.2))/\kvs.length<=15/\Q (.ref p) (upd H2 p (.dK (uN [] kvs)))
theorem Sv {X:Cx} {pos:Pos} {keys:List (Option Expr)} {values:List Expr} {trs:List (TE × TE)} (h:PPs X pos keys values trs) (hall:keys.all (·.isSome)=true) (hl:keys.length=values.length) (h0:keys≠[])
   (h15:keys.length<=15):PE X (.Dict keys values pos) (Lk trs):=by
 intro pins s σ H Q I q;have hn:=I.hok.fresh (Nat.le_refl s.heap.objs.size);have I1:=I.laid (a:=s.heap.objs.size) (o:=.dK []) (h':=s.heap.push { cls:=.type "dict",data:=.dict #[] }) (t':=s.toks) (fun _ _ q=>Heap.get?_push_of_some _ q) (Nat.le_refl _) (HA s.heap I.big);refine wpAny_Dict_walk (knd:=dH X.prog X.w) hall hl h0 h15 (thn (h pins _ σ _ _ I1 (q _ hn)) fun ws s2 ⟨ps,H2,I2,rel,e,kvs,ep,lk,q2⟩=>?_);subst ep;obtain ⟨rs,c,rk⟩:=BD (P:=X.prog) (w:=X.w) rel;obtain ⟨z,hd,vs0,r0,dd⟩:=RI I2.hok e;cases r0;refine ⟨rs,c,dd,fun h' dd' hs=>⟨.ref s.heap.objs.size,_,?_,rfl,q2⟩⟩;have hz:(uN [] kvs).length<=sizeLine:=by
   have h1:=wQ kvs [];rw [List.length_nil] at h1;rw [sizeLine_eq];omega
 have he:∃ q,h'.get? s.heap.objs.size=some q:=let ⟨q,_,_,hq,_⟩:=dd';⟨q,hq⟩;exact Dq I2 (by rw [e];exact True.intro) hs he (Nf hz hd (rk.merge .nil) dd')
end L2
namespace Att
open PySem PySem.W PySem.Calls PyProof.Rows
theorem CK {P:Params} {h:Heap}:∀ (ns:List Int) (vs:List Value),WellAll P h vs (ns.map WData.int)->IntsAre vs ns:=by
 intro ns
 induction ns with
 | nil =>
   intro vs w;rw [List.map_nil] at w;cases w;exact .nil
 | cons n ns ih =>
   intro vs w;rw [List.map_cons] at w;cases w with
   | cons a b =>
     cases a;exact .cons _ _ (ih _ b)
theorem Od {l:OpenLaw} {n:Nat} (hn:l.most=some n) {P:Params} {h:Heap} {args:List WData} {vals:List Value}
   (hpre:l.row.toRowW.claim.pre args=true) (hwl:WellAll P h vals args) :
   ∃ a vs ns,vals=[Value.ref a]/\args=[WData.list (ns.map WData.int)]/\h.get? a=some { cls:=.type "list",data:=.seq vs.toArray }/\IntsAre vs ns/\ns.length<=n:=by
 have hsh:WShape.hasAll [] args [.list .int]=true:=(pre_splitW hpre).1;have hc:l.pre.holds [] { args:=args }=true:=(pre_splitW hpre).2;obtain ⟨d,r,rfl,h1,h2⟩:=hasAllW_cons hsh;obtain rfl:=hasAllW_nil h2;obtain ⟨xs,rfl,h3⟩:=hasW_list h1;obtain ⟨ns,rfl⟩:=items_int h3;have hlen:ns.length<=n:=by
   unfold OpenLaw.pre at hc;have h4:(WTm.not (.lt (.lit (.int (n:Int))) (.len (.arg 0)))).holds [] { args:=[.list (ns.map .int)] }=true:=by
     have h4:=(holds_andW hc).1;rw [hn] at h4;exact h4
   have h5:=condW_of h4 (w_not (w_lt w_lit (w_len_list (w_arg rfl))));rw [List.length_map] at h5;refine Nat.le_of_not_lt fun q=>?_;have q':(n:Int)<((ns.length:Nat):Int):=by omega
   first
     | (rw [decide_eq_true q'] at h5;exact absurd h5 (by decide))
     | (simp at h5;omega)
 cases hwl with
 | cons w1 w2 =>
   cases w2;cases w1 with
   | list ho hall=>exact ⟨_,_,ns,rfl,rfl,ho,CK ns _ hall,hlen⟩
theorem Nr (l:OpenLaw) (args:List WData):l.row.toRowW.claim.post args (.bool true) args=true :=
 postW_of (r:=l.row.toRowW) (X:=(true == true))
   (show WShape.has [] (.bool true) .bool=true by first|rfl|decide|simp [WShape.has,WShape.arms,WShape.armsAll])
   (show (WTm.eq .res (.lit (.bool true))).value [] { args:=args,res:=some (.bool true),after:=args }=some (.bool (true == true)) from w_eq_bool (w_res rfl) w_lit) rfl
theorem attach_call {l:OpenLaw} {n:Nat} {q:Program} {loose:List Str} {XP:(Str->Option Value)->Heap->Prop} {YP:World->Heap->Prop} {d:DefRec}
   (hn:l.most=some n) (hdf:d.params.defaults=[])
   (call:∀ (w:World) (s₀ s₁:Shared) (mg mb:Str->Option Value) (fa:Addr) (o:Obj) (pm cd doc:Value) (a:Addr) (vs:List Value) (ns:List Int),
     Ground q loose [] XP w s₀ mg mb s₁.heap->YP w s₁.heap ->
     s₁.heap.get? fa=some o->o.data=.func (docDef d.name d.params d.body d.scope pm cd doc)->s₁.heap.CodeRec cd d.name->mg d.name=some (.ref fa) ->
     s₁.heap.get? a=some { cls:=.type "list",data:=.seq vs.toArray }->IntsAre vs ns->ns.length<=n->s₁.gens=#[] ->
     codeAny (model l.prog w) callerA (.call (.ref fa) ⟨[.ref a],[]⟩) (fun r s'=>r=.ok (.ret (.bool true))/\OldK s₁.heap s'.heap/\s'.os=s₁.os/\AllBare s'.gens) s₁) :
   WalkO q loose XP YP l.row.toRowW d [] (fun f vs=>PySem.call f vs):=by
 intro w s₀ s₁ mg mb G Y fa o pm cd doc dV kV ho hd hcd hD hmg hg args vals as hpre hlay hrd hwl hlo;obtain rfl:dV=.none:=Dflts.none hD hdf;obtain rfl:kV=.none:=Dflts.noKw hD;obtain ⟨a,vs,ns,rfl,rfl,hobj,hints,hlen⟩:=Od hn hpre hwl;refine enter_call (codeAny_mono (call w s₀ s₁ mg mb fa o pm cd doc a vs ns G Y ho (fd_plain hd) hcd hmg hobj hints hlen hg) fun r s' hq=>?_);obtain ⟨rfl,h2,h3,h4⟩:=hq;exact ⟨.inl ⟨.bool true,.bool true,[],rfl,fun _=>rfl,.bool true,Nr l _,fun _=>⟨List.Pairwise.nil,fun _ hm=>(nomatch hm)⟩⟩,h2,h3,h4⟩
end Att
namespace L2
open PySem PySem.Spec PyProof.Rows
theorem Em:∀ {vs:List Value} {ns:List Int},IntsAre vs ns->Vals (ns.map V.int) vs
 | _,_,.nil=>.nil
 | _,_,.cons n t h=>.cons ⟨t,rfl⟩ (Em h)
def Qi (H:Hp):Prop:=∀ b,H b=none\/∃ o xs,H b=some (.frz o (.lst xs))
theorem O4 {P:Program} {w:World} {K:PySem.W.Frag} {mg mb:Str->Option Value} {CX:CXT} {k:Nat} {fa a:Addr} {fd:FuncData} {x:Str} {sp:Sp} {s₁:Shared} {vs:List Value} {ns:List Int}
   (KX:K.In s₁.heap) (hns:s₁.heap.Ns mainGlobals mg) (hb:s₁.heap.Ns builtinsNs mb) (hbb:∀ x:Str,x≠"__name__"->mb x=bootBuiltins x) (hlim:s₁.heap.NoLimit) (hg:s₁.gens=#[])
   (ha:s₁.heap.get? a=some { cls:=.type "list",data:=.seq vs.toArray }) (hi:IntsAre vs ns) (hl:ns.length<=sizeLine) (hr:Room k callerA)
   (F:∀ base:Heap,K.In base->base.Ns mainGlobals mg->FnOk P w K mg base CX k fa fd [x] sp) (hbind:∀ (s:Shared) (u:Value),BindsTo s fd ⟨[u],[]⟩ [(x,u)])
   (hsp:∀ H:Hp,Qi H->SqL K H a (ns.map V.int)->sp [.ref a] H (fun v _=>v=.bl true) fun _ _ _=>False)
   (hCX:∀ H e s',CX [] H s₁ (fun _ _ _=>False) e s'->False) :
   codeAny (model P w) callerA (.call (.ref fa) ⟨[.ref a],[]⟩) (fun r s'=>r=.ok (.ret (.bool true))/\OldK s₁.heap s'.heap/\s'.os=s₁.os/\AllBare s'.gens) s₁:=by
 have rv:=Em hi;have lenV:=hi.length;have core:∀ H:Hp,Qi H->SqL K H a (ns.map V.int)->HOk P w H s₁.heap->(∀ b,H b≠none->b=a)->(H a≠none->K.lookup a=none) ->
     codeAny (model P w) callerA (.call (.ref fa) ⟨[.ref a],[]⟩) (fun r s'=>r=.ok (.ret (.bool true))/\OldK s₁.heap s'.heap/\s'.os=s₁.os/\AllBare s'.gens) s₁:=by
   intro H hO hS hok hA hK;have base_of:∀ {b:Addr} {o:Obj},s₁.heap.get? b=some o->H b=none->(we s₁.heap H).get? b=some o:=fun e n=>Rh e n;have noA:∀ {b:Addr} {o:Obj} {es:Array DictEntry} {ep:Nat},s₁.heap.get? b=some o->o.data=.dict es ep->H b=none:=fun {b o es ep} e d=>by
     cases q:H b with
     | none=>rfl
     | some u =>
       have e':b=a:=hA b (by rw [q];simp);subst e';rw [ha] at e;cases e;have d':Data.seq vs.toArray _=Data.dict es ep:=d;cases d'
   have nsK:∀ {b:Addr} {m:Str->Option Value},s₁.heap.Ns b m->(we s₁.heap H).Ns b m:=fun {b m} ⟨o,es,ep,e,d,r⟩=>⟨o,es,ep,base_of e (noA e d),d,r⟩;have hKb:K.In (we s₁.heap H):=fun b o e=>base_of (KX b o e) (by
     cases q:H b with
     | none=>rfl
     | some u =>
       have e':b=a:=hA b (by rw [q];simp);subst e';rw [hK (by rw [q];simp)] at e;cases e)
   have hM:Mod K mg (we s₁.heap H):=⟨hKb,nsK hns,⟨mb,nsK hb,hbb⟩,let ⟨mc,h1,h2⟩:=hlim;⟨mc,nsK h1,h2⟩⟩;have e0:Env0 P w K mg (we s₁.heap H) callerA [] s₁ H:=⟨rfl,hM,fun b o e=>Sl e,Nat.le_of_eq (NG _ _),trivial,fun b hb=>absurd (show b∈([]:List Addr) from hb) (by simp),hok,.of_eq hg⟩;refine codeAny_mono ((F _ hKb (nsK hns)).run callerA [] s₁ H ⟨[.ref a],[]⟩ [.ref a] [.ref a] _ _ hr e0 (hbind s₁ (.ref a)) (.cons rfl .nil) (hsp H hO hS)) fun r s' h=>?_;cases r with
   | error e=>exact (hCX H e s' h).elim
   | ok fl =>
     cases fl with
     | next=>exact False.elim h
     | brk=>exact False.elim h
     | cont=>exact False.elim h
     | ret u =>
       obtain ⟨v,H',os,bare,un,hok',r',q⟩:=h;have q':v=.bl true:=q;subst q';obtain rfl:u=Value.bool true:=r';refine ⟨rfl,OldK.of_keep fun b o e=>?_,os,bare⟩;cases q:H b with
       | none=>exact un.keep b o e q (by intro z;exact absurd (show b∈([]:List Addr) from z) (by simp)) (by simp)
       | some u =>
         rcases hO b with z|⟨ob,xs,z⟩
         . rw [q] at z;cases z
         . have z2:=un.frzs b ob _ z;obtain ⟨e1,_⟩:=hok b _ z;obtain ⟨e2,_⟩:=hok' b _ z2;rw [e] at e1;cases e1;exact e2
 cases hk:K.lookup a with
 | some o =>
   have e:=KX a o hk;rw [ha] at e;cases e;refine core (fun _=>none) (fun _=>.inl rfl) (.inr ⟨_,vs.toArray,_,hk,rfl,rfl,rfl,by rw [List.size_toArray,lenV];exact hl,by simpa using rv⟩) (fun b u z=>by have z':(none:Option HO)=some u:=z;cases z') (fun b z=>absurd rfl z) fun z=>absurd rfl z
 | none =>
   refine core (fun b=>if b=a then some (.frz { cls:=.type "list",data:=.seq vs.toArray } (.lst (ns.map V.int))) else none) (fun b=>?_) (.inl (.inr ⟨{ cls:=.type "list",data:=.seq vs.toArray },if_pos rfl⟩)) (fun b u z=>?_) (fun b z=>?_) fun _=>hk
   . by_cases hb:b=a
     . exact .inr ⟨_,_,if_pos hb⟩
     . exact .inl (if_neg hb)
   . by_cases hb:b=a
     . have z':=(if_pos hb).symm.trans z;cases z';subst hb;exact ⟨ha,by rw [List.length_map];exact hl,vs,_,rv,ha⟩
     . have z':=(if_neg hb).symm.trans z;cases z'
   . by_cases hb:b=a
     . exact hb
     . exact absurd (if_neg hb) z
end L2
namespace L2
open PySem PySem.Spec PyProof.Rows
theorem walk_of {l:PySem.W.OpenLaw} {n k:Nat} {q:Program} {loose:List Str} {XP:(Str->Option Value)->Heap->Prop} {YP:World->Heap->Prop} {d:DefRec} {K:Params->PySem.W.Frag} {CX:World->CXT} {sp:World->Sp} {x:Str}
   (hn:l.most=some n) (hn2:n<=sizeLine) (hdf:d.params.defaults=[]) (hr:Room k callerA)
   (hY:∀ (w:World) (h:Heap),YP w h->(K w.params).In h)
   (F:∀ (w:World) (mg:Str->Option Value) (fa:Addr) (h:Heap),(K w.params).In h->h.Ns mainGlobals mg->mg d.name=some (.ref fa) ->
     ∃ fd:FuncData,(∀ (s:Shared) (u:Value),BindsTo s fd ⟨[u],[]⟩ [(x,u)]) /\
       ∀ base:Heap,(K w.params).In base->base.Ns mainGlobals mg->FnOk l.prog w (K w.params) mg base (CX w) k fa fd [x] (sp w))
   (hsp:∀ (w:World) (H:Hp) (a:Addr) (ns:List Int),ns.length<=n->Qi H->SqL (K w.params) H a (ns.map V.int)->sp w [.ref a] H (fun v _=>v=.bl true) fun _ _ _=>False)
   (hCX:∀ (w:World) (H:Hp) (s:Shared) (e:Value) (s':Shared),CX w [] H s (fun _ _ _=>False) e s'->False) :
   PySem.W.WalkO q loose XP YP l.row.toRowW d [] (fun f vs=>PySem.call f vs):=by
 refine Att.attach_call hn hdf fun w s₀ s₁ mg mb fa o pm cd doc a vs ns G Y ho hd hcd hmg hobj hints hlen hg=>?_;have KX:=hY w _ Y;obtain ⟨fd,hb,hF⟩:=F w mg fa _ KX G.T.g hmg;exact O4 KX G.T.g G.T.b G.T.builtins G.T.nolimit hg hobj hints (Nat.le_trans hlen hn2) hr hF hb (fun H hO hS=>hsp w H a ns hlen hO hS) fun H e s'=>hCX w H s₁ e s'
end L2
namespace L2
open PySem PySem.Spec PyProof.Rows
def Ku (s:Stmt) (j:Nat):Stmt:=match s with
 | .ClassDef _ _ _ body _ _ _ _ _ _ _=>body.getD j (.Pass ⟨0,0,0,0⟩)
 | _=>.Pass ⟨0,0,0,0⟩
def aA (s:Stmt):Arguments:=match s with
 | .FunctionDef _ a _ _ _ _ _ _ _ _=>a
 | _=>{ posonlyargs:=[],args:=[],vararg:=none,kwonlyargs:=[],kw_defaults:=[],kwarg:=none,defaults:=[] }
def az (s:Stmt):List Stmt:=match s with
 | .FunctionDef _ _ b _ _ _ _ _ _ _=>b
 | _=>[]
def aa (s:Stmt):Scope:=match s with
 | .FunctionDef _ _ _ _ _ _ sc _ _ _=>sc
 | _=>{ kind:=.function,names:=[],isGenerator:=false,isCoroutine:=false }
abbrev CX0:CXT:=fun _ _ _ _ _ _=>False
abbrev E0:XK:=fun _ _ _=>False
structure Fun (K:PySem.W.Frag) (x qual:Str) (st:Stmt) (f:Addr) (fd:FuncData):Prop where
 ex:∃ (oc:Value) (od:Option Addr) (kV doc pm:Value) (an:Option Addr) (cdv ct:Value) (osl:Array (Option Value)),
   fd=PySem.W.fnOf x qual (aA st) (az st) (aa st) .none kV doc pm an cdv ct/\K.lookup f=some ⟨oc,od,.func fd,osl⟩/\PySem.W.codeIn K cdv qual=true
 kp:PySem.W.keepIn K (.ref f)=true
section
variable {P:Program} {w:World} {K:PySem.W.Frag} {mg:Str->Option Value} {base:Heap}
theorem Fun.binds {x qual:Str} {st:Stmt} {f:Addr} {fd:FuncData} {ps:List Str} (F:Fun K x qual st f fd)
   (h:∀ (kV doc pm:Value) (an:Option Addr) (cdv ct:Value) (us:List Value),us.length=ps.length->bindArgs (PySem.W.fnOf x qual (aA st) (az st) (aa st) .none kV doc pm an cdv ct) ⟨us,[]⟩=pure (ps.zip us)):Binds K fd ps []:=by
 obtain ⟨oc,od,kV,doc,pm,an,cdv,ct,osl,rfl,lk,hcd⟩:=F.ex;exact .all (h kV doc pm an cdv ct)
theorem aI {x qual:Str} {st:Stmt} {f:Addr} {oc:Value} {od an:Option Addr} {osl:Array (Option Value)} {kV doc pm cdv ct:Value} (l:K.lookup f=some ⟨oc,od,.func (PySem.W.fnOf x qual (aA st) (az st) (aa st) .none kV doc pm an cdv ct),osl⟩)
   (c:PySem.W.codeIn K cdv qual=true) (k:PySem.W.keepIn K (.ref f)=true):Fun K x qual st f (PySem.W.fnOf x qual (aA st) (az st) (aa st) .none kV doc pm an cdv ct):=⟨⟨oc,od,kV,doc,pm,an,cdv,ct,osl,rfl,l,c⟩,k⟩
end
theorem sB {A:Around} {k:Nat} (hr:Room k A):A.units+1<cLine:=Nat.lt_of_le_of_lt (Nat.add_le_add_left (by decide:1<=64) _) hr.units
section
variable {X:Cx}
theorem pv (i:Nat) {x:Str} {pos:Pos} (hN:X.N[i]?=some x:=by rfl) (hv:Vis X.env.scope x:=by first|exact Or.inl rfl|exact Or.inr (Or.inl rfl)|exact Or.inr (Or.inr rfl)) (hd:(x == ("__debug__":Str))=false:=by decide)
   (hcd:(x == ("__classdict__":Str))=false:=by decide):PE X (.Name x pos) (AY i):=GR hN hv hd hcd
end
theorem Ts {A B:Prop} (h:B):if false=true then A else B:=by
 rw [if_neg Bool.false_ne_true];exact h
theorem UC {A B:Prop} (h:A):if true=true then A else B:=by
 rw [if_pos rfl];exact h
def Same (H H':Hp):Prop:=∀ b o,H b=some o->H' b=some o
theorem Same.refl (H:Hp):Same H H:=fun _ _ h=>h
theorem Same.trans {H H1 H2:Hp} (a:Same H H1) (b:Same H1 H2):Same H H2:=fun c o h=>b c o (a c o h)
theorem Same.free {H H':Hp} (e:Same H H') {l:Addr} (h:H' l=Option.none):H l=Option.none:=by
 cases q:H l with
 | none=>rfl
 | some o =>
   rw [e l o q] at h;cases h
theorem Same.seq {K:PySem.W.Frag} {H H':Hp} {a:Addr} {xs:List V} (e:Same H H') (h:SqL K H a xs):SqL K H' a xs:=by
 rcases h with (h|⟨o,h⟩)|h
 . exact .inl (.inl (e _ _ h))
 . exact .inl (.inr ⟨o,e _ _ h⟩)
 . exact .inr h
end L2
namespace L2
open PySem PySem.Spec PyProof.Rows
section
variable {X:Cx}
theorem NO:j9 X (.builtin "len") (fun xs H Q=>∃ a kvs,xs=[V.ref a]/\H a=some (.dK kvs)/\Q (.int kvs.length) H):=by
 intro pins s σ H xs us Q I r h;obtain ⟨a,kvs,rfl,ha,q⟩:=h;obtain ⟨u,rfl,ru⟩:=qo r;cases ru;exact UI I (.inl ha) fun t s' I'=>⟨.int kvs.length,H,I',⟨t,rfl⟩,q⟩
end
end L2
namespace L2
open PySem PySem.Spec PyProof.Rows
def Cx.comp (X:Cx) (Nc:List Str) (scope:Scope) (cl:List (Str × Addr)) (C:Addr) (s₂:Shared) (H₁:Hp) (fp:List Addr):Cx where
 prog:=X.prog
 w:=X.w
 K:=X.K
 mg:=X.mg
 base:=X.base
 A:=X.A
 N:=Nc
 s₀:=s₂
 H₀:=H₁
 env:=compEnvC scope cl C X.env
 outer:=X.stack
 stack:=X.stack
 ex:=fp
 fn:=fun _=>false
 calm:=X.calm
 pn:=[]
 xe:=fun _ _=>False
structure CompTxt (X:Cx) (Nc:List Str) (own:Nat) (js:List Nat) (scope:Scope) (cl:List (Str × Addr)):Prop where
 clos:closureFor scope X.env=pure cl
 kind:scope.kind=.function
 nocell:∀ y∈scope.names,y.2≠.cell
 names:∀ y∈scope.names,y.2=.local->scope.names.lookup y.1=some .local
 cells:∀ x c,cl.lookup x=some c->X.env.cells.lookup x=some c
 has:∀ x,((relabel scope X.env).names.lookup x=some .cell\/(relabel scope X.env).names.lookup x=some .free)->∃ c,cl.lookup x=some c
 len:Nc.length=own+js.length
 outer:∀ i x,Nc[own+i]?=some x->∃ j,js[i]?=some j/\X.N[j]?=some x/\X.env.scope.names.lookup x=some .cell/\(relabel scope X.env).names.lookup x=some .cell
def gH (own:Nat) (js:List Nat) (σ:St):St:=List.replicate own none++js.map fun j=>(σ[j]?).getD none
def Mx (own:Nat) (js:List Nat) (wi:TI) (g:TG) (tc:TT) (te:TE):TE:=fun σ H Q=>wi σ H fun J H1=>∀ p,H1 p=none ->
 ∃ W:Nat->Nat->List V->St->Hp->Prop,(∃ m,W 0 m [] (gH own js σ) (upd H1 p (.lst [])))/\∀ i m ys σc Hc,W i m ys σc Hc ->
   (J.stop i Hc/\Q (.ref p) Hc)\/(J.go i Hc/\∀ x H',J.yld i Hc x H'->g x σc H' fun σ2 H2=>tc σ2 H2 fun b H3 =>
     if b=true then te σ2 H3 fun y H4=>H4 p=some (.lst ys)/\ys.length<sizeLine/\∃ m',m'<m/\W (i+1) m' (ys++[y]) σ2 (upd H4 p (.lst (ys++[y])))
     else ∃ m',m'<m/\W (i+1) m' ys σ2 H3)
def PTs (X:Cx) (ifs:List Expr) (t:TT):Prop :=
 ∀ (pins:List (Addr × Obj)) (s:Shared) (σ:St) (H:Hp) (Q:Bool->Hp->Prop),Inv X pins σ H s->t σ H Q ->
   wpAny (model X.prog X.w) X.A (forIn ifs true fun c r=>if r=true then do let ok <- isTrue c X.env (eval c X.env);pure (ForInStep.yield ok) else pure (ForInStep.yield r)) (TP X pins σ Q) X.xe s
def tYes:TT:=fun _ H Q=>Q true H
theorem g0 {X:Cx}:PTs X [] tYes:=fun pins s σ H Q I h=>wpAny_tests_nil ⟨H,I,h⟩
theorem uA {X:Cx} {c:Expr} {t:TT} (h:PT X c t):PTs X [c] t:=fun pins s σ H Q I q=>wpAny_tests_one (h pins s σ H Q I q)
section
variable {prog:Program} {w:World} {A:Around} {E:Value->Shared->Prop} {R:Result->Shared->Prop} {s:Shared}
theorem z9 {elt target iter:Expr} {ifs:List Expr} {scope:Scope} {pos:Pos} {it acc:Value} {env:Env} (I:Nat->Shared->Prop)
   (turn:∀ n s,I n s->wpAny (model prog w) A (pyNext it) (fun r s₁=>match r with
     | none=>R (.ok .next) s₁
     | some v=>wpAny (model prog w) A (letOwnedTupleGo target it v) (fun _ s₁'=>wpAny (model prog w) A (assign target env v) (fun _ s₂ =>
         wpAny (model prog w) A (forIn ifs true fun c r=>if r=true then do let ok <- isTrue c env (eval c env);pure (ForInStep.yield ok) else pure (ForInStep.yield r)) (fun ok s₃ =>
           if ok=true then wpAny (model prog w) A (eval elt env) (fun x s₄ =>
             wpAny (model prog w) A (call (.builtin "list.append") [acc,x]) (fun _ s₅=>∃ m,m<n/\I m s₅) (fun _ _=>False) s₄) (fun _ _=>False) s₃
           else ∃ m,m<n/\I m s₃) (fun _ _=>False) s₂) (fun _ _=>False) s₁') (fun _ _=>False) s₁) (fun _ _=>False) s)
   (n:Nat) (h:I n s) :
   codeAny (model prog w) A (.compLoop (.ListComp elt [⟨target,iter,ifs,0⟩] scope pos) 0 it acc env) R s:=by
 refine codeAny_loop rfl I (fun n s hI=>?_) n h;show wpAny _ A ((compTurn (.ListComp elt [⟨target,iter,ifs,0⟩] scope pos) 0 it acc env).onRaise (fun x=>do noteFrame x env;theTreesLotGoes x)) _ _ s;refine wpAny_noted ?_;rw [compTurn_list];refine wpAny_bind (wpAny_standAt (wpAny_bind (wpAny_mono (turn n s hI) (fun r s₁ h₁=>?_) fun _ _ h'=>h'.elim)));cases r with
 | none=>exact wpAny_pure h₁
 | some v =>
   refine wpAny_bind (wpAny_mono h₁ (fun _ s₁' h₁'=>?_) fun _ _ h'=>h'.elim);refine wpAny_bind (wpAny_mono h₁' (fun _ s₂ h₂=>wpAny_bind (wpAny_mono h₂ (fun ok s₃ h₃=>?_) fun _ _ h'=>h'.elim)) fun _ _ h'=>h'.elim);cases ok with
   | true =>
     rw [if_pos rfl] at h₃;simp only [if_true];exact wpAny_bind (wpAny_bind (wpAny_mono h₃ (fun x s₄ h₄=>wpAny_bind (wpAny_mono h₄ (fun _ s₅ h₅=>wpAny_pure (wpAny_pure ⟨rfl,h₅⟩)) fun _ _ h'=>h'.elim)) fun _ _ h'=>h'.elim))
   | false =>
     rw [if_neg Bool.false_ne_true] at h₃;simp only [Bool.false_eq_true,if_false]
     first
       | exact wpAny_pure ⟨rfl,h₃⟩
       | exact wpAny_bind (wpAny_pure (wpAny_pure ⟨rfl,h₃⟩))
end
end L2
namespace L2
open PySem PySem.Spec PyProof.Rows
section
variable {X:Cx} {Nc:List Str} {own:Nat} {js:List Nat} {scope:Scope} {cl:List (Str × Addr)}
theorem C8 {pins:List (Addr × Obj)} {σ:St} {H₁:Hp} {s₂:Shared} {C:Addr} {fp:List Addr} (T:CompTxt X Nc own js scope cl) (I:Inv X pins σ H₁ s₂) (hC:s₂.heap.objs.size<=C)
   (f1:∀ b∈fp,ly X pins H₁ b) (hlt:∀ b∈fp,b<s₂.heap.objs.size):(X.comp Nc scope cl C s₂ H₁ fp).Ok where
 mod:=I.ok.mod
 kind:=by show (relabel scope X.env).kind=_;exact T.kind
 glob:=I.ok.glob
 blt:=I.ok.blt
 above:=hC
 inj:=fun x y c h1 h2=>I.ok.inj x y c (T.cells x c h1) (T.cells y c h2)
 has:=fun x h=>T.has x h
 cab:=fun x c h=>by cases h
 hd:=I.ok.hd
 frames:=I.ok.frames
 stk:=.inl rfl
 exf:=fun b hb=>⟨Nat.ne_of_lt (Nat.lt_of_lt_of_le (hlt b hb) hC),fun x c h=>(f1 b hb).2.2.2.2.1 x c (T.cells x c h)⟩
 bs:=I.bs
 bsz:=Nat.le_trans I.ok.bsz I.sz
 noex:=fun b o e hb=>by
   rcases (f1 b hb).2.2.2.1 with z|z
   . exact I.ok.noex b o e z
   . exact absurd (Nat.lt_of_lt_of_le (Heap.lt_size (I.ok.bs b o e).1) z) (Nat.lt_irrefl _)
 exfs:=fun b hb hs=>by
   rcases List.mem_cons.mp (I.stkSub b hs) with z|z
   . exact (f1 b hb).2.1 z
   . exact (f1 b hb).2.2.1 z
 funs:=I.stack
 frf:=I.stkFree
theorem FE {pins:List (Addr × Obj)} {σ:St} {H₁:Hp} {s₂:Shared} {C D:Addr} {fp:List Addr} {h₁:Heap} {t:Nat} {m:Str->Option Value} (T:CompTxt X Nc own js scope cl) (I:Inv X pins σ H₁ s₂) (hC:s₂.heap.objs.size<=C)
   (hD:s₂.heap.objs.size<=D) (hDC:D≠C) (f1:∀ b∈fp,ly X pins H₁ b) (hlt:∀ b∈fp,b<s₂.heap.objs.size) (old:∀ b o,s₂.heap.get? b=some o->h₁.get? b=some o) (hns:h₁.Ns C m)
   (hacc:∃ n,h₁.get? D=some { cls:=.type "list",data:=.seq ([]:List Value).toArray n }) :
   Inv (X.comp Nc scope cl C s₂ H₁ fp) [] (gH own js σ) (upd H₁ D (.lst [])) { s₂ with heap:=h₁,toks:=t }:=by
 obtain ⟨na,hacc⟩:=hacc;have cellK:∀ c v,s₂.heap.IsCell c v->h₁.IsCell c v:=fun c v ⟨o,ho,hd⟩=>⟨o,old c o ho,hd⟩;refine ⟨C8 T I hC f1 hlt,rfl,I.bare,Un.laid old hD (I.hok.fresh hD),⟨m,hns,fun i x v e1 e2 e3=>?_⟩,fun x c e=>?_,?_,fun x c e=>?_,fun p hp=>(by cases hp),I.hok.laid old hD ?_,?_⟩
 . have hN:Nc[i]?=some x:=e1;have hσ:(gH own js σ)[i]?=some (some v):=e2;unfold gH at hσ;by_cases hi:i<own
   . rw [List.getElem?_append_left (by simpa using hi),List.getElem?_replicate] at hσ;simp [hi] at hσ
   . obtain ⟨k,rfl⟩:∃ k,i=own+k:=⟨i - own,by omega⟩;rw [List.getElem?_append_right (by simp)] at hσ;simp only [List.length_replicate,Nat.add_sub_cancel_left,List.getElem?_map] at hσ;obtain ⟨j,hj,hx,hk,hr⟩:=T.outer k x hN;rw [hj] at hσ;replace hσ:some (σ[j]?.getD none)=some (some v):=hσ;have hσj:σ[j]?=some (some v):=by
       cases q:σ[j]? with
       | none=>rw [q] at hσ;simp at hσ
       | some y=>rw [q] at hσ;simpa using hσ
     obtain ⟨m0,hn0,hl0⟩:=I.loc;obtain ⟨u,ru,lk⟩:=hl0 j x v hx hσj (.inr (.inl hk));refine ⟨u,ru,.inr ⟨.inl hr,?_⟩⟩;rcases lk with ⟨z,_⟩|⟨_,c,hc,hcell⟩
     . have z':X.env.scope.names.lookup x=some .local:=z;rw [hk] at z';cases z'
     . obtain ⟨c',hc'⟩:=T.has x (.inl hr);have:=T.cells x c' hc';rw [hc] at this;cases this;exact ⟨c,hc',cellK c _ hcell⟩
 . obtain ⟨v,z⟩:=I.cell x c (T.cells x c e);exact ⟨v,cellK c v z⟩
 . show upd H₁ D (.lst []) C=none;rw [ao (Ne.symm hDC)];exact I.hok.fresh hC
 . have e':=T.cells x c e;obtain ⟨v,o,ho,_⟩:=I.cell x c e';rw [ao (Nat.ne_of_lt (Nat.lt_of_lt_of_le (Heap.lt_size ho) hD))];exact I.freeC x c e'
 . exact ⟨Nat.zero_le _,[],na,.nil,hacc⟩
 . show (gH own js σ).length=Nc.length;rw [T.len];simp [gH]
theorem D9 {pins:List (Addr × Obj)} {σ σc:St} {H₁ H':Hp} {s₂ s':Shared} {C:Addr} {fp:List Addr} {h':Heap} (I:Inv X pins σ H₁ s₂) (hC:s₂.heap.objs.size<=C)
   (f1:∀ b∈fp,ly X pins H₁ b) (I':Inv (X.comp Nc scope cl C s₂ H₁ fp) [] σc H' s') (hs:Heap.SameBut C s'.heap h'):Inv X pins σ H' { s' with heap:=h' }:=by
 have u:Un (frs X.stack) fp H₁ H' s₂.heap s'.heap:=I'.base;have ne:∀ b o,s₂.heap.get? b=some o->b≠C:=fun b o e=>Nat.ne_of_lt (Nat.lt_of_lt_of_le (Heap.lt_size e) hC);have k:∀ b o,b≠C->s'.heap.get? b=some o->h'.get? b=some o:=fun b o n e=>hs.extBut b o n e;have u':Un (frs X.stack) fp H₁ H' s₂.heap h':=⟨fun b o e n hb hx=>k b o (ne b o e) (u.keep b o e n hb hx),fun b o e n hb hx=>let ⟨sl,q⟩:=u.slot b o e n hb hx;⟨sl,k b _ (ne b o e) q⟩,
   u.free,fun b o e hx=>let ⟨o',q⟩:=u.there b o e hx;⟨o',k b o' (ne b o e) q⟩,u.tups,u.frzs,u.tbls⟩
 have hfree:H' C=none:=I'.free;have hok':HOk X.prog X.w H' h':=fun a o e=>(I'.hok a o e).stay (fun b v hb q=>k b v (fun z=>by
   rcases hb with y|y
   . rw [y] at z;rw [z,hfree] at e;cases e
   . rw [z,hfree] at y;cases y) q) (fun _ q=>q) fun _ _ q=>q
 exact I.call' (s':={ s' with heap:=h' }) (ch:=fp) I'.os u' hok' I'.bare fun b hb=>⟨(f1 b hb).2.2.2.1,(f1 b hb).2.1,(f1 b hb).2.2.2.2.1,(f1 b hb).2.2.2.2.2⟩
theorem eW {elt target iter:Expr} {ifs:List Expr} {pos:Pos} {wi:TI} {g:TG} {tc:TT} {te:TE} (hc:X.calm=true) (T:CompTxt X Nc own js scope cl)
   (hi:PI X target iter wi) (hg:∀ C s₂ H₁ fp,PG (X.comp Nc scope cl C s₂ H₁ fp) target g) (ht:∀ C s₂ H₁ fp,PTs (X.comp Nc scope cl C s₂ H₁ fp) ifs tc)
   (he:∀ C s₂ H₁ fp,PE (X.comp Nc scope cl C s₂ H₁ fp) elt te) (hs:∀ x,foldedSetIterable iter X.env x=pure x:=by intro _;rfl) :
   PE X (.ListComp elt [⟨target,iter,ifs,0⟩] scope pos) (Mx own js wi g tc te):=by
 intro pins s σ H Q I h;rw [eval_ListComp];refine wpAny_comprehension_free (use:=none) rfl hs T.clos T.kind T.names (thn (hi pins s σ H _ I h) fun v s1 h1=>thn h1 fun itv s2 h2=>?_);obtain ⟨it,fp,tn,J,H1,rfl,I1,Tn,st,f1,R⟩:=h2;have hfp:∀ b∈fp,b<s2.heap.objs.size:=fun b hb=>let ⟨o,e,_⟩:=Tn.obj _ _ st b hb;Heap.lt_size e;refine wpAny_newObj_type (wpAny_newFunctionEnv T.nocell (by intro y hy;simp at hy) (fun h₁ hns₁ hsb₁=>?_) T.kind);dsimp only at hns₁ hsb₁ ⊢;generalize hH2:s2.heap.push { cls:=.type "list",dict:=none,data:=.seq ([]:List Value).toArray }=H2 at hns₁ hsb₁ ⊢;have hC:H2.objs.size=s2.heap.objs.size+1:=by rw [<- hH2,Heap.size_push]
 have hDC:s2.heap.objs.size≠H2.objs.size:=by rw [hC];exact Nat.ne_of_lt (Nat.lt_succ_self _)
 have hCle:s2.heap.objs.size<=H2.objs.size:=by rw [hC];exact Nat.le_succ _
 have below:∀ b,b<s2.heap.objs.size->b≠H2.objs.size:=fun b hb=>by rw [hC];exact Nat.ne_of_lt (Nat.lt_succ_of_lt hb)
 have old:∀ b o,s2.heap.get? b=some o->h₁.get? b=some o:=fun b o e=>hsb₁.extBut b o (below b (Heap.lt_size e)) (Heap.get?_push_of_some _ (hH2 ▸ Heap.get?_push_of_some _ e));have hacc:∃ n,h₁.get? s2.heap.objs.size=some { cls:=.type "list",data:=.seq ([]:List Value).toArray n }:=⟨_,hsb₁.extBut _ _ hDC (Heap.get?_push_of_some _ (hH2 ▸ Heap.get?_push_size _ rfl))⟩;have st₁:tn 0 h₁:=Tn.keep _ _ _ st fun b _ o e=>old b o e;obtain ⟨W,⟨m0,w0⟩,turn⟩:=R s2.heap.objs.size I1.fresh;have Ic:=FE (t:=s2.toks+([]:List (Str × Value)).length) T I1 hCle (Nat.le_refl _) hDC f1 hfp old hns₁ hacc;generalize hXc:X.comp Nc scope cl H2.objs.size s2 H1 fp=Xc at Ic;have stat:∀ {H':Hp},(∀ b∈fp,H' b=none)->∀ b∈fp,ly Xc [] H' b:=fun {H'} hn b hb=>by
   subst hXc;exact ⟨hn b hb,below b (hfp b hb),(C8 T I1 hCle f1 hfp).exfs b hb,.inl hb,fun x c e=>(f1 b hb).2.2.2.2.1 x c (T.cells x c e),fun p hp=>by cases hp⟩
 have fr0:∀ b∈fp,upd H1 s2.heap.objs.size (.lst []) b=none:=fun b hb=>by
   rw [ao (Nat.ne_of_lt (hfp b hb))];exact (f1 b hb).1
 have calmc:Xc.calm=true:=by subst hXc;exact hc
 have loop:∀ s₃:Shared,s₃={ s2 with heap:=h₁,toks:=s2.toks+([]:List (Str × Value)).length } ->
     codeAny (model X.prog X.w) X.A (.compLoop (.ListComp elt [⟨target,iter,ifs,0⟩] scope pos) 0 (.ref it) (.ref s2.heap.objs.size) (compEnvC scope cl H2.objs.size X.env))
       (compPost (model X.prog X.w) X.A X.xe none (EP X pins σ Q) (.ref s2.heap.objs.size) H2.objs.size) s₃:=by
   rintro s₃ rfl;refine z9 (fun n s'=>∃ i ys σ' H',Inv Xc [] σ' H' s'/\tn i s'.heap/\(∀ b∈fp,H' b=none)/\W i n ys σ' H') ?_ m0 ⟨0,[],_,_,Ic,st₁,fr0,w0⟩;rintro n s3 ⟨i,ys,σ3,H3,I3,st3,fr3,w3⟩;rcases turn i n ys σ3 H3 w3 with ⟨stop,q⟩|⟨go,step⟩
   . subst hXc;refine thn (Tn.done (X.comp Nc scope cl H2.objs.size s2 H1 fp) rfl rfl rfl hc i [] s3 σ3 H3 _ I3 (stat fr3) st3 stop) fun r s4 ⟨hr,I4⟩=>?_;subst hr;obtain ⟨m4,hn4,_⟩:=id I4.loc;exact ⟨m4,hn4,fun h' hs'=>⟨.ref s2.heap.objs.size,H3,D9 I1 hCle f1 I4 hs',rfl,q⟩⟩
   . subst hXc;refine thn (Tn.item (X.comp Nc scope cl H2.objs.size s2 H1 fp) rfl rfl rfl hc i [] s3 σ3 H3 _ I3 (stat fr3) st3 go) fun r s4 ⟨u,hr,h4⟩=>?_;subst hr;refine thn h4 fun _ s5 ⟨x,H5,I5,r5,y5,st5,fr5⟩=>?_;have I5':=I5.pinned (stat fr5) (Tn.obj _ _ st5);have back:∀ {σ7:St} {H7:Hp} {s7:Shared},Inv (X.comp Nc scope cl H2.objs.size s2 H1 fp) ([]++uv fp s5.heap) σ7 H7 s7->Inv (X.comp Nc scope cl H2.objs.size s2 H1 fp) [] σ7 H7 s7/\tn (i+1) s7.heap/\∀ b∈fp,H7 b=none:=fun {σ7 H7 s7} I7=>by
       refine ⟨I7.unpinned,Tn.keep _ _ _ st5 fun b hb o e=>(I7.pin (b,o) (List.mem_append_right _ (List.mem_append_right _ (kg hb e)))).1,fun b hb=>?_⟩;obtain ⟨o,e,d⟩:=Tn.obj _ _ st5 b hb;exact (I7.pin (b,o) (List.mem_append_right _ (List.mem_append_right _ (kg hb e)))).2.1
     refine thn (hg _ _ _ _ _ s5 σ3 H5 x u _ I5' r5 (step x H5 y5)) fun _ s6 ⟨σ6,H6,I6,q6⟩=>?_;refine Dd (ht _ _ _ _ _ s6 σ6 H6 _ I6 q6) fun ok s7 H7 I7 q7=>?_;cases ok with
     | false =>
       rw [if_neg Bool.false_ne_true] at q7 ⊢;obtain ⟨m',hm,w7⟩:=q7;obtain ⟨J1,J2,J3⟩:=back I7;exact ⟨m',hm,i+1,ys,σ6,H7,J1,J2,J3,w7⟩
     | true =>
       rw [if_pos rfl] at q7 ⊢;refine bx (he _ _ _ _ _ s7 σ6 H7 _ I7 q7) fun y s8 yv H8 I8 r8 ⟨hp8,hl8,m',hm,w8⟩=>?_;refine thn (cG _ s8 σ6 H8 (.ref s2.heap.objs.size) [yv] _ [y] (fun v' H'=>W (i+1) m' (ys++[yv]) σ6 H') I8 rfl (.cons r8 .nil) ⟨_,ys,yv,rfl,rfl,hp8,hl8,w8⟩) fun v9 s9 ⟨_,H9,I9,_,w9⟩=>?_;obtain ⟨J1,J2,J3⟩:=back I9;exact ⟨m',hm,i+1,ys++[yv],σ6,H9,J1,J2,J3,w9⟩
 exact codeAny_compStart_list (loop _ rfl) (Tn.self _ 0 _ _ _ st₁ (loop _ rfl))
end
end L2
namespace L2
open PySem PySem.Spec PyProof.Rows
section
variable {X:Cx}
def rInsert:V->List V->Hp->VK->Prop:=fun x vs H Q=>∃ (l:Addr) (xs:List V) (i:Int) (y:V),x=.ref l/\vs=[.int i,y]/\H l=some (.lst xs)/\0<=i/\i<=xs.length/\xs.length<sizeLine/\Q .non (upd H l (.lst (xs.take i.toNat++y::xs.drop i.toNat)))
theorem yJ:MtM X "list.insert" rInsert:=by
 intro pins s σ H x vs v us Q I rx rv h;obtain ⟨l,xs,i,y,rfl,rfl,hH,h0,hk,hz,q⟩:=h;cases rx;obtain ⟨u1,u2,rfl,⟨t,rfl⟩,ru⟩:=rv.two;obtain ⟨z,its,n,r,hl,e⟩:=I.lstM hH;have hn:=ue;have hf:Builtin.List.listFitsIndex i=true:=by
   unfold Builtin.List.listFitsIndex;rw [Bool.and_eq_true];exact ⟨decide_eq_true (by omega),decide_eq_true (by omega)⟩
 have hf':¬ (!Builtin.List.listFitsIndex i)=true:=by rw [hf];decide
 have hzz:its.toArray.size<=sizeLine:=by rw [List.size_toArray,<- hl];exact z
 refine call_meets PySem.F.slot_list_insert ⟨_,e,rfl⟩ PySem.F.entry_list_insert (PySem.F.args_list_insert_3 _ _ _) (PySem.AutoSeq1.list_insert_list_int_val_1 l its.toArray n i t u2 hf' hzz) ⟨e,?_⟩;refine ⟨.non,_,I.lset (its':=its.take i.toNat++u2::its.drop i.toNat) hH e ?_ ((r.take i.toNat).append (.cons ru (r.drop i.toNat))) ?_,rfl,q⟩
 . show (its.toArray.extract 0 (if i<0 then (i+(its.toArray.size:Int)).toNat else min i.toNat its.toArray.size)).push u2++its.toArray.extract (if i<0 then (i+(its.toArray.size:Int)).toNat else min i.toNat its.toArray.size)=_;have e0:(if i<0 then (i+(its.toArray.size:Int)).toNat else min i.toNat its.toArray.size)=i.toNat:=by
     rw [if_neg (by omega),List.size_toArray];omega
   rw [e0];exact PySem.W.kl_ins_eq its i.toNat u2
 . rw [List.length_append,List.length_cons,List.length_take,List.length_drop];omega
theorem ke:OpR X (binaryOp .Mult) (rI (fun i j=>IntMulOk i j) fun i j=>.int (i*j)):=opI fun i j t u s Q E h q=>PyProof.Rows.mul_int q h
def Ss (K:PySem.W.Frag):List V->Hp->VK->Prop:=fun xs H Q=>∃ x c t b,xs=[x,c]/\TyOf K H x t/\(∀ cv,RelV c cv->PySem.W.kitOne K t cv=some b)/\Q (.bl b) H
theorem zM:j9 X (.builtin "isinstance") (Ss X.K):=by
 intro pins s σ H xs us Q I r h;obtain ⟨x,c,t,b,rfl,ty,hk,q⟩:=h;obtain ⟨u,cv,rfl,ru,rc⟩:=K6 r;exact ML I ru ty (hk cv rc) fun tk=>⟨.bl b,H,I.tok tk,rfl,q⟩
end
mutual
inductive Deep (K:PySem.W.Frag) (H:Hp):V->PyData->Prop
 | non:Deep K H .non .none
 | bl (b:Bool):Deep K H (.bl b) (.bool b)
 | int (i:Int):Deep K H (.int i) (.int i)
 | str {x:Str}:PyData.canLay0 (.str x)=true->Deep K H (.str x) (.str x)
 | lst {a:Addr} {xs:List V} {ds:List PyData}:SqL K H a xs->DeepAll K H xs ds->Deep K H (.ref a) (.list ds)
 | tup {a:Addr} {xs:List V} {ds:List PyData}:SqT K H a xs->DeepAll K H xs ds->Deep K H (.ref a) (.tuple ds)
inductive DeepAll (K:PySem.W.Frag) (H:Hp):List V->List PyData->Prop
 | nil:DeepAll K H [] []
 | cons {x:V} {d:PyData} {xs:List V} {ds:List PyData}:Deep K H x d->DeepAll K H xs ds->DeepAll K H (x::xs) (d::ds)
end
mutual
theorem Deep.reads {X:Cx} {pins:List (Addr × Obj)} {σ:St} {H:Hp} {s:Shared} (I:Inv X pins σ H s):∀ {x:V} {d:PyData} {u:Value},Deep X.K H x d->RelV x u->(∃ as,Reads s.heap u d as)/\d.canLay0=true
 | _,_,_,.non,r=>by cases (show _=Value.none from r);exact ⟨⟨_,.none⟩,by simp [PyData.canLay0]⟩
 | _,_,_,.bl b,r=>by cases (show _=Value.bool b from r);exact ⟨⟨_,.bool b⟩,by simp [PyData.canLay0]⟩
 | _,_,_,.int i,r=>by obtain ⟨t,e⟩:=(show ∃ t,_=Value.int i t from r);cases e;exact ⟨⟨_,.int i t⟩,by simp [PyData.canLay0]⟩
 | _,_,_,.str (x:=x) h,r=>by obtain ⟨t,e⟩:=(show ∃ t,_=Value.str x t from r);cases e;exact ⟨⟨_,.str x t⟩,h⟩
 | _,_,_,.lst (a:=a) h hs,r=>by
   cases (show _=Value.ref a from r);obtain ⟨its,rv,⟨o,n,e,c,_,dd⟩,hz⟩:=I.list h;obtain ⟨⟨as,ra⟩,cl⟩:=DeepAll.reads I hs rv;exact ⟨⟨_,.list e c dd (by simpa using ra)⟩,by simpa [PyData.canLay0] using cl⟩
 | _,_,_,.tup (a:=a) h hs,r=>by
   cases (show _=Value.ref a from r);obtain ⟨its,rv,⟨o,e,c,n,dd⟩,hz⟩:=I.tuple h;obtain ⟨⟨as,ra⟩,cl⟩:=DeepAll.reads I hs rv;exact ⟨⟨_,.tuple e c dd (by simpa using ra)⟩,by simpa [PyData.canLay0] using cl⟩
theorem DeepAll.reads {X:Cx} {pins:List (Addr × Obj)} {σ:St} {H:Hp} {s:Shared} (I:Inv X pins σ H s):∀ {xs:List V} {ds:List PyData} {us:List Value},DeepAll X.K H xs ds->Vals xs us->(∃ as,ReadsAll s.heap us ds as)/\PyData.canLayAll0 ds=true
 | _,_,_,.nil,.nil=>⟨⟨_,.nil⟩,by simp [PyData.canLayAll0]⟩
 | _,_,_,.cons h hs,.cons r rs=>by
   obtain ⟨⟨as,ra⟩,c1⟩:=Deep.reads I h r;obtain ⟨⟨bs,rb⟩,c2⟩:=DeepAll.reads I hs rs;exact ⟨⟨_,.cons ra rb⟩,by simp [PyData.canLayAll0,c1,c2]⟩
end
section
variable {X:Cx}
def UZ (K:PySem.W.Frag):R2:=fun x y H Q=>∃ d e,Deep K H x d/\Deep K H y e/\d.depth<=40/\Q (.bl (PyData.eqv d e)) H
def UX (K:PySem.W.Frag):R2:=fun x y H Q=>∃ d e,Deep K H x d/\Deep K H y e/\d.depth<=40/\Q (.bl (!PyData.eqv d e)) H
theorem Us (hu:X.A.units+64<cLine):OpR X (compareOp .Eq) (UZ X.K):=by
 intro pins s σ H x y v u Q I rx ry h;obtain ⟨d,e,hd,he,hp,q⟩:=h;obtain ⟨⟨as,ra⟩,ca⟩:=hd.reads I rx;obtain ⟨⟨bs,rb⟩,cb⟩:=he.reads I ry;exact PySem.SeqAt.compareEq_reads ra rb ca cb (by omega) ⟨.bl _,H,I,rfl,q⟩
theorem Ui (hu:X.A.units+64<cLine):OpR X (compareOp .NotEq) (UX X.K):=by
 intro pins s σ H x y v u Q I rx ry h;obtain ⟨d,e,hd,he,hp,q⟩:=h;obtain ⟨⟨as,ra⟩,ca⟩:=hd.reads I rx;obtain ⟨⟨bs,rb⟩,cb⟩:=he.reads I ry;exact PySem.SeqAt.compareNe_reads ra rb ca cb (by omega) ⟨.bl _,H,I,rfl,q⟩
end
end L2
namespace L2
open PySem PySem.Spec PyProof.Rows
structure SubF (P:Program) (w:World) (l:Addr) (ob:Obj) (src:Heap->Array Value->Prop) (at':Addr->Nat->Heap->Prop):Prop where
 start:∀ (A:Around) (s:Shared) (vs:Array Value) (Q:Value->Shared->Prop) (E:Value->Shared->Prop),src s.heap vs->Q (.ref s.heap.objs.size) { s with heap:=s.heap.push ob }->wpAny (model P w) A (pyIter (.ref l)) Q E s
 first:∀ it h,h.get? it=some ob->at' it 0 h
 atK:∀ it i h h',at' it i h->(∀ o,h.get? it=some o->h'.get? it=some o)->at' it i h'
 srcK:∀ h h' vs,src h vs->(∀ o,h.get? l=some o->h'.get? l=some o)->src h' vs
 obj:∀ it i h,at' it i h->∃ o,h.get? it=some o/\∀ v,o.data≠.cell v
 item:∀ (A:Around) (s:Shared) (it:Addr) (i:Nat) (vs:Array Value) (x:Value) (Q:Value->Shared->Prop) (E:Value->Shared->Prop),at' it i s.heap->src s.heap vs->vs[i]?=some x ->
   (∀ h',at' it (i+1) h'->Heap.SameBut it s.heap h'->Q x { s with heap:=h' })->wpAny (model P w) A (Builtin.SmallTypes.nextOf (.ref it)) Q E s
 fin:∀ (A:Around) (s:Shared) (it:Addr) (i:Nat) (vs:Array Value) (Q:Value->Shared->Prop) (E:Value->Shared->Prop),A.handled=none->at' it i s.heap->src s.heap vs->vs[i]?=none ->
   (∀ h' e,Heap.ExtBut it s.heap h'->(∃ o,h'.get? e=some o/\o.cls=.type "StopIteration")->E (.ref e) { s with heap:=h' })->wpAny (model P w) A (Builtin.SmallTypes.nextOf (.ref it)) Q E s
theorem NS {P:Program} {w:World} (l:Addr):SubF P w l { cls:=.type "list_iterator",data:=.fields #[.ref l,.int 0 0] } (fun h vs=>h.IsList l vs) (fun it i h=>h.IsListIter it l i) where
 start:=fun A s vs Q E hl hq=>wpAny_pyIter_list hl hq
 first:=fun it h e=>⟨_,e,rfl,rfl⟩
 atK:=fun it i h h' x k=>x.at k
 srcK:=fun h h' vs x k=>x.at k
 obj:=fun it i h x=>by
   obtain ⟨o,ho,_,hd⟩:=x;exact ⟨o,ho,fun v z=>by rw [hd] at z;cases z⟩
 item:=fun A s it i vs x Q E ha hs hx hq=>wpAny_nextOf_list_item ha hs hx hq
 fin:=fun A s it i vs Q E hh ha hs hx hq=>wpAny_nextOf_list_end hh ha hs hx hq
section
variable {P:Program} {w:World} {A:Around} {E:Value->Shared->Prop} {s:Shared}
theorem zi {it t:Addr} {i:Nat} {vs:Array Value} {x:Value} {Q:Value->Shared->Prop} (hi:s.heap.IsTupleIter it t i) (ht:s.heap.IsTuple t vs) (hx:vs[i]?=some x)
   (hq:∀ h',h'.IsTupleIter it t (i+1)->Heap.SameBut it s.heap h'->Q x { s with heap:=h' }):wpAny (model P w) A (Builtin.SmallTypes.nextOf (.ref it)) Q E s:=by
 obtain ⟨oi,hoi,hci,hdi⟩:=id hi;obtain ⟨ot,hot,_,nt,hdt⟩:=ht;unfold Builtin.SmallTypes.nextOf;refine wpAny_bind (wpAny_callSpecial?_slot (name:=Str.ofString "__next__") hi.typeIs F.slot_tuple_iterator_next (wpAny_call_entry F.slot_tuple_iterator_next hi.typeIs F.entry_tuple_iterator_next ?_ (F.args_tuple_iterator_next_1 _)));show wpAny (model P w) _ (field (.ref it) 0 >>= _) _ _ s;refine wpAny_bind (wpAny_field hoi hdi (x:=.ref t) rfl ?_);show wpAny (model P w) _ (if (Value.ref t == Value.none)=true then _ else _) _ _ s;rw [if_neg (by exact Bool.false_ne_true)];show wpAny (model P w) _ (field (.ref it) 1 >>= _) _ _ s;refine wpAny_bind (wpAny_field hoi hdi (x:=.int i 0) rfl ?_);show wpAny (model P w) _ (seqItems? (.ref t) >>= _) _ _ s;refine wpAny_bind (wpAny_seqItems hot hdt ?_);simp only [Int.toNat_natCast,hx];refine wpAny_bind (wpAny_setField hoi hdi (by simp) (wpAny_pure ⟨x,rfl,wpAny_pure (hq _ ?_ (Heap.SameBut.update ..))⟩));exact ⟨_,Heap.get?_update_self _ hoi (Obj.isFreed_of_fields (Obj.data_mapFields hdi _)),(Obj.cls_mapFields ..).trans hci,by rw [Obj.data_mapFields hdi];simp [rawInt]⟩
theorem A8 {it t:Addr} {i:Nat} {vs:Array Value} {Q:Value->Shared->Prop} (hh:A.handled=none) (hi:s.heap.IsTupleIter it t i) (ht:s.heap.IsTuple t vs) (hx:vs[i]?=none)
   (hE:∀ h' e,Heap.ExtBut it s.heap h'->(∃ o,h'.get? e=some o/\o.cls=.type "StopIteration")->E (.ref e) { s with heap:=h' }):wpAny (model P w) A (Builtin.SmallTypes.nextOf (.ref it)) Q E s:=by
 obtain ⟨oi,hoi,hci,hdi⟩:=id hi;obtain ⟨ot,hot,_,nt,hdt⟩:=ht;unfold Builtin.SmallTypes.nextOf;refine wpAny_bind (wpAny_callSpecial?_slot (name:=Str.ofString "__next__") hi.typeIs F.slot_tuple_iterator_next (wpAny_call_entry F.slot_tuple_iterator_next hi.typeIs F.entry_tuple_iterator_next ?_ (F.args_tuple_iterator_next_1 _)));show wpAny (model P w) _ (field (.ref it) 0 >>= _) _ _ s;refine wpAny_bind (wpAny_field hoi hdi (x:=.ref t) rfl ?_);show wpAny (model P w) _ (if (Value.ref t == Value.none)=true then _ else _) _ _ s;rw [if_neg (by exact Bool.false_ne_true)];show wpAny (model P w) _ (field (.ref it) 1 >>= _) _ _ s;refine wpAny_bind (wpAny_field hoi hdi (x:=.int i 0) rfl ?_);show wpAny (model P w) _ (seqItems? (.ref t) >>= _) _ _ s;refine wpAny_bind (wpAny_seqItems hot hdt ?_);simp only [Int.toNat_natCast,hx];refine wpAny_bind (wpAny_rule (wpAny_bind (wpAny_setField hoi hdi (by simp) ?_)));show wpAny (model P w) _ (newExc (.type "StopIteration") [] >>= _) _ _ _;refine wpAny_bind ?_;simp only [newExc,newTuple];refine wpAny_bind (wpAny_newObj_type ?_ (by size_fits));refine wpAny_bind (m:=firstArgMember _ _) (wpAny_of_eq (a:=Value.none) (by first|rfl|(simp only [firstArgMember];rfl)) ?_);refine wpAny_newObj_type ?_ (by size_fits);simp only [raiseNew];refine wpAny_bind (wpAny_handled ?_)
 first|rw [show A.in1.handled=none from hh]|rw [hh]
 refine wpAny_bind (wpAny_pure (wpAny_throw ?_));exact hE _ _ (((Heap.SameBut.update ..).extBut.push _).push _) ⟨_,Heap.get?_push_size _ rfl,rfl⟩
end
theorem OU {P:Program} {w:World} (l:Addr):SubF P w l { cls:=.type "tuple_iterator",data:=.fields #[.ref l,.int 0 0] } (fun h vs=>h.IsTuple l vs) (fun it i h=>h.IsTupleIter it l i) where
 start:=fun A s vs Q E hl hq=>wpAny_pyIter_tuple hl hq
 first:=fun it h e=>⟨_,e,rfl,rfl⟩
 atK:=fun it i h h' x k=>let ⟨o,ho,r⟩:=x;⟨o,k o ho,r⟩
 srcK:=fun h h' vs x k=>let ⟨o,ho,r⟩:=x;⟨o,k o ho,r⟩
 obj:=fun it i h x=>by
   obtain ⟨o,ho,_,hd⟩:=x;exact ⟨o,ho,fun v z=>by rw [hd] at z;cases z⟩
 item:=fun A s it i vs x Q E ha hs hx hq=>zi ha hs hx hq
 fin:=fun A s it i vs Q E hh ha hs hx hq=>A8 hh ha hs hx hq
end L2
namespace L2
open PySem PySem.Spec PyProof.Rows
structure ZAp (z TI TO i1 i2 l1 l2:Addr):Prop where
 a1:TI≠z
 a2:TO≠z
 a3:i1≠z
 a4:i2≠z
 a5:TI≠TO
 a6:TI≠i1
 a7:TI≠i2
 a8:TO≠i1
 a9:TO≠i2
 a0:i1≠i2
 b1:l1≠z/\l1≠TO/\l1≠i1/\l1≠i2
 b2:l2≠z/\l2≠TO/\l2≠i1/\l2≠i2
section
variable {P:Program} {w:World} {A:Around} {E:Value->Shared->Prop} {s:Shared} {l1 l2:Addr} {ob1 ob2:Obj} {src1 src2:Heap->Array Value->Prop} {at1 at2:Addr->Nat->Heap->Prop}
theorem Gg (S1:SubF P w l1 ob1 src1 at1) (S2:SubF P w l2 ob2 src2 at2) {z TI TO i1 i2:Addr} {k1 k2:Nat} {xs ys:Array Value} {x y a b:Value} {Q:Value->Shared->Prop} (D:ZAp z TI TO i1 i2 l1 l2)
   (Hz:IsZip s.heap z TI TO .none) (HI:IsPair s.heap TI (.ref i1) (.ref i2)) (HO':IsPair s.heap TO a b) (p1:at1 i1 k1 s.heap) (p2:at2 i2 k2 s.heap) (q1:src1 s.heap xs) (q2:src2 s.heap ys) (hx:xs[k1]?=some x) (hy:ys[k2]?=some y)
   (hQ:∀ h',IsZip h' z TI TO (rawInt s.heap.objs.size)->IsPair h' TO x y->at1 i1 (k1+1) h'->at2 i2 (k2+1) h'->IsPair h' s.heap.objs.size x y->h'.objs.size=s.heap.objs.size+1 ->
     (∀ c o,c≠z->c≠TO->c≠i1->c≠i2->s.heap.get? c=some o->h'.get? c=some o)->Q (.ref s.heap.objs.size) { s with heap:=h' }) :
   wpAny (model P w) A (Builtin.«zip.__next__» ⟨[.ref z],[]⟩) (fun fn s'=>∃ v,fn=.done (.ret v)/\Q v s') E s:=by
 show wpAny (model P w) _ (field (.ref z) 2 >>= _) _ _ _;refine wpAny_bind (wpAny_field Hz rfl (x:=.bool false) rfl ?_);show wpAny (model P w) _ (field (.ref z) 3 >>= _) _ _ _;refine wpAny_bind (wpAny_field Hz rfl (x:=.ref TI) rfl ?_);refine wpAny_bind (wpAny_seqItems HI rfl ?_);show wpAny (model P w) _ (Builtin.SmallTypes.ownedTupleIsFree (.ref z) >>= _) _ _ _;refine wpAny_bind ?_;unfold Builtin.SmallTypes.ownedTupleIsFree;refine wpAny_bind (wpAny_field Hz rfl (x:=.none) rfl (wpAny_pure ?_));simp only [if_true];refine wpAny_bind (wpAny_rule ?_);refine wpAny_bind (wpAny_field Hz rfl (x:=.ref TO) rfl ?_);refine wpAny_bind (wpAny_setField_rec Hz (by simp) fun g1 z1 e1=>?_);replace z1:IsZip g1 z TI TO .ellipsis:=z1;refine wpAny_bind ?_;simp only [List.zipIdx_cons,List.zipIdx_nil,List.forIn_cons,List.forIn_nil];refine wpAny_bind (wpAny_bind (wpAny_onRaise ?_));show wpAny (model P w) _ (Builtin.SmallTypes.nextOf (.ref i1) >>= _) _ _ _;refine wpAny_bind (S1.item _ { s with heap:=g1 } i1 k1 xs x _ _ (S1.atK _ _ _ _ p1 fun o e=>e1.extBut _ _ D.a3 e) (S1.srcK _ _ _ q1 fun o e=>e1.extBut _ _ D.b1.1 e) hx fun g2 p1b e2=>wpAny_pure ?_);have o2:IsPair g2 TO a b:=e2.extBut _ _ D.a8 (e1.extBut _ _ D.a2 HO');refine wpAny_bind (wpAny_seqItems o2 rfl ?_);refine wpAny_bind (wpAny_updateSeq_pair o2 fun g3 o3 e3=>?_);replace o3:IsPair g3 TO x b:=o3;refine wpAny_bind (wpAny_letGo (wpAny_pure ?_));refine wpAny_bind (wpAny_bind (wpAny_onRaise ?_));show wpAny (model P w) _ (Builtin.SmallTypes.nextOf (.ref i2) >>= _) _ _ _;refine wpAny_bind (S2.item _ { s with heap:=g3 } i2 k2 ys y _ _ (S2.atK _ _ _ _ p2 fun o e=>e3.extBut _ _ D.a9.symm (e2.extBut _ _ D.a0.symm (e1.extBut _ _ D.a4 e))) (S2.srcK _ _ _ q2 fun o e=>e3.extBut _ _ D.b2.2.1 (e2.extBut _ _ D.b2.2.2.1 (e1.extBut _ _ D.b2.1 e))) hy fun g4 p2b e4=>wpAny_pure ?_);have o4:IsPair g4 TO x b:=e4.extBut _ _ D.a9 o3;refine wpAny_bind (wpAny_seqItems o4 rfl ?_);refine wpAny_bind (wpAny_updateSeq_pair o4 fun g5 o5 e5=>?_);replace o5:IsPair g5 TO x y:=o5;refine wpAny_bind (wpAny_letGo (wpAny_pure (wpAny_pure ?_)));refine wpAny_bind (wpAny_seqItems o5 rfl ?_);refine wpAny_bind (wpAny_newTuple ?_);have sz:g5.objs.size=s.heap.objs.size:=by rw [e5.1,e4.1,e3.1,e2.1,e1.1]
 have z5:IsZip g5 z TI TO .ellipsis:=e5.extBut _ _ D.a2.symm (e4.extBut _ _ D.a4.symm (e3.extBut _ _ D.a2.symm (e2.extBut _ _ D.a3.symm z1)));have k5:∀ c o,c≠z->c≠TO->c≠i1->c≠i2->s.heap.get? c=some o->g5.get? c=some o:=fun c o c1 c2 c3 c4 e =>
   e5.extBut _ _ c2 (e4.extBut _ _ c4 (e3.extBut _ _ c2 (e2.extBut _ _ c3 (e1.extBut _ _ c1 e))))
 have p15:at1 i1 (k1+1) g5:=S1.atK _ _ _ _ p1b fun o e=>e5.extBut _ _ D.a8.symm (e4.extBut _ _ D.a0 (e3.extBut _ _ D.a8.symm e));have p25:at2 i2 (k2+1) g5:=S2.atK _ _ _ _ p2b fun o e=>e5.extBut _ _ D.a9.symm e;have zlt:z<g5.objs.size:=Heap.lt_size z5;show wpAny (model P w) _ (Builtin.SmallTypes.ownedTupleHandOut (.ref z) (.ref g5.objs.size) >>= _) _ _ _;refine wpAny_bind ?_;unfold Builtin.SmallTypes.ownedTupleHandOut;have z6:IsZip (g5.push { cls:=.type "tuple",data:=.seq #[x,y] }) z TI TO .ellipsis:=Heap.get?_push_of_some _ z5;refine wpAny_bind (wpAny_setField_rec z6 (by simp) fun g7 z7 e7=>?_);replace z7:IsZip g7 z TI TO (rawInt g5.objs.size):=z7;refine wpAny_setField_rec z7 (by simp) fun g8 z8 e8=>?_;replace z8:IsZip g8 z TI TO (rawInt g5.objs.size):=z8;have up:∀ c o,c≠z->g5.get? c=some o->g8.get? c=some o:=fun c o c1 e=>e8.extBut _ _ c1 (e7.extBut _ _ c1 (Heap.get?_push_of_some _ e));have t8:IsPair g8 g5.objs.size x y:=e8.extBut _ _ (Nat.ne_of_gt zlt) (e7.extBut _ _ (Nat.ne_of_gt zlt) (Heap.get?_push_size _ rfl));have s8:g8.objs.size=g5.objs.size+1:=by rw [e8.1,e7.1,Heap.size_push]
 rw [sz] at z8 t8 s8;refine wpAny_pure ⟨_,rfl,?_⟩;show Q (.ref g5.objs.size) _;rw [sz];exact hQ g8 z8 (up _ _ D.a2 o5) (S1.atK _ _ _ _ p15 fun o e=>up _ o D.a3 e) (S2.atK _ _ _ _ p25 fun o e=>up _ o D.a4 e) t8 s8 fun c o c1 c2 c3 c4 e=>up c o c1 (k5 c o c1 c2 c3 c4 e)
theorem Jo (S1:SubF P w l1 ob1 src1 at1) (S2:SubF P w l2 ob2 src2 at2) {z TI TO i1 i2:Addr} {k1 k2:Nat} {xs ys:Array Value} {a b:Value} {Q:Fin->Shared->Prop} (hh:A.handled=none) (D:ZAp z TI TO i1 i2 l1 l2)
   (Hz:IsZip s.heap z TI TO .none) (HI:IsPair s.heap TI (.ref i1) (.ref i2)) (HO':IsPair s.heap TO a b) (p1:at1 i1 k1 s.heap) (p2:at2 i2 k2 s.heap) (q1:src1 s.heap xs) (q2:src2 s.heap ys) (hend:xs[k1]?=none\/ys[k2]?=none)
   (hE:∀ h' e,(∀ c o,c≠z->c≠TO->c≠i1->c≠i2->s.heap.get? c=some o->h'.get? c=some o)->(∃ o,h'.get? e=some o/\o.cls=.type "StopIteration")->E (.ref e) { s with heap:=h' }) :
   wpAny (model P w) A (Builtin.«zip.__next__» ⟨[.ref z],[]⟩) Q E s:=by
 show wpAny (model P w) _ (field (.ref z) 2 >>= _) _ _ _;refine wpAny_bind (wpAny_field Hz rfl (x:=.bool false) rfl ?_);show wpAny (model P w) _ (field (.ref z) 3 >>= _) _ _ _;refine wpAny_bind (wpAny_field Hz rfl (x:=.ref TI) rfl ?_);refine wpAny_bind (wpAny_seqItems HI rfl ?_);show wpAny (model P w) _ (Builtin.SmallTypes.ownedTupleIsFree (.ref z) >>= _) _ _ _;refine wpAny_bind ?_;unfold Builtin.SmallTypes.ownedTupleIsFree;refine wpAny_bind (wpAny_field Hz rfl (x:=.none) rfl (wpAny_pure ?_));simp only [if_true];refine wpAny_bind (wpAny_rule ?_);refine wpAny_bind (wpAny_field Hz rfl (x:=.ref TO) rfl ?_);refine wpAny_bind (wpAny_setField_rec Hz (by simp) fun g1 z1 e1=>?_);replace z1:IsZip g1 z TI TO .ellipsis:=z1;refine wpAny_bind ?_;simp only [List.zipIdx_cons,List.zipIdx_nil,List.forIn_cons,List.forIn_nil];refine wpAny_bind (wpAny_bind (wpAny_onRaise ?_));show wpAny (model P w) _ (Builtin.SmallTypes.nextOf (.ref i1) >>= _) _ _ _;have p1a:at1 i1 k1 g1:=S1.atK _ _ _ _ p1 fun o e=>e1.extBut _ _ D.a3 e;have q1a:src1 g1 xs:=S1.srcK _ _ _ q1 fun o e=>e1.extBut _ _ D.b1.1 e;cases hx:xs[k1]? with
 | none =>
   refine wpAny_bind (S1.fin _ { s with heap:=g1 } i1 k1 xs _ _ hh p1a q1a hx fun g2 e e2 he=>?_);obtain ⟨oe,hoe,hce⟩:=he;have z2:IsZip g2 z TI TO .ellipsis:=e2 _ _ D.a3.symm z1;have ez:e≠z:=fun t=>by subst t;rw [z2] at hoe;cases hoe;simp at hce
   refine wpAny_setField_rec z2 (by simp) fun g3 _ e3=>hE g3 e (fun c o c1 _ c3 _ t=>e3.extBut _ _ c1 (e2 _ _ c3 (e1.extBut _ _ c1 t))) ⟨oe,e3.extBut _ _ ez hoe,hce⟩
 | some x =>
   have hy:ys[k2]?=none:=by
     rcases hend with h|h
     . rw [hx] at h;cases h
     . exact h
   refine wpAny_bind (S1.item _ { s with heap:=g1 } i1 k1 xs x _ _ p1a q1a hx fun g2 p1b e2=>wpAny_pure ?_);have o2:IsPair g2 TO a b:=e2.extBut _ _ D.a8 (e1.extBut _ _ D.a2 HO');refine wpAny_bind (wpAny_seqItems o2 rfl ?_);refine wpAny_bind (wpAny_updateSeq_pair o2 fun g3 o3 e3=>?_);refine wpAny_bind (wpAny_letGo (wpAny_pure ?_));refine wpAny_bind (wpAny_bind (wpAny_onRaise ?_));show wpAny (model P w) _ (Builtin.SmallTypes.nextOf (.ref i2) >>= _) _ _ _;refine wpAny_bind (S2.fin _ { s with heap:=g3 } i2 k2 ys _ _ hh (S2.atK _ _ _ _ p2 fun o e=>e3.extBut _ _ D.a9.symm (e2.extBut _ _ D.a0.symm (e1.extBut _ _ D.a4 e))) (S2.srcK _ _ _ q2 fun o e=>e3.extBut _ _ D.b2.2.1 (e2.extBut _ _ D.b2.2.2.1 (e1.extBut _ _ D.b2.1 e))) hy fun g4 e e4 he=>?_);obtain ⟨oe,hoe,hce⟩:=he;have z4:IsZip g4 z TI TO .ellipsis:=e4 _ _ D.a4.symm (e3.extBut _ _ D.a2.symm (e2.extBut _ _ D.a3.symm z1));have ez:e≠z:=fun t=>by subst t;rw [z4] at hoe;cases hoe;simp at hce
   refine wpAny_setField_rec z4 (by simp) fun g5 _ e5=>hE g5 e (fun c o c1 c2 c3 c4 t=>e5.extBut _ _ c1 (e4 _ _ c4 (e3.extBut _ _ c2 (e2.extBut _ _ c3 (e1.extBut _ _ c1 t))))) ⟨oe,e5.extBut _ _ ez hoe,hce⟩
abbrev zp1 (h:Heap) (ob1 ob2:Obj):Heap:=(h.push ob1).push ob2
abbrev zp2 (h:Heap) (ob1 ob2:Obj):Heap:=(zp1 h ob1 ob2).push { cls:=.type "tuple",data:=.seq #[.ref h.objs.size,.ref (h.push ob1).objs.size] }
abbrev zp3 (h:Heap) (ob1 ob2:Obj):Heap:=(zp2 h ob1 ob2).push { cls:=.type "tuple",data:=.seq #[.none,.none] }
abbrev zp4 (h:Heap) (ob1 ob2:Obj):Heap:=(zp3 h ob1 ob2).push { cls:=.type "zip",data:=.fields #[.none,.bool false,.bool false,.ref (zp1 h ob1 ob2).objs.size,.ref (zp2 h ob1 ob2).objs.size] }
theorem Ff (S1:∀ P w,SubF P w l1 ob1 src1 at1) (S2:∀ P w,SubF P w l2 ob2 src2 at2) (ne:∀ h vs,src2 h vs->∃ o,h.get? l2=some o) (xs ys:Array Value) :
   Meets (Builtin.«zip.__new__» ⟨[.type "zip",.ref l1,.ref l2],[]⟩) (fun _ R s=>src1 s.heap xs/\src2 s.heap ys/\R (.ok (.ret (.ref (zp3 s.heap ob1 ob2).objs.size))) { s with heap:=zp4 s.heap ob1 ob2 }) :=
 .of_wp fun prog w A R s hyp=>by
   obtain ⟨hp,g,d,tk,os⟩:=s;obtain ⟨q1,q2,r⟩:=hyp;have zsub:=sub_zip;have B1:src1 (Shared.heap ⟨hp,g,d,tk,os⟩) xs:=q1;have B2:src2 (Shared.heap ⟨hp.push ob1,g,d,tk,os⟩) ys:=(S2 prog w).srcK _ _ _ q2 fun o e=>Heap.get?_push_of_some _ e
   wp_walk using ((S1 prog w).start _ _ _ _ _ B1),((S2 prog w).start _ _ _ _ _ B2)
   exact ⟨_,rfl,r⟩
theorem Qc (S1:∀ P w,SubF P w l1 ob1 src1 at1) (S2:∀ P w,SubF P w l2 ob2 src2 at2) (ne:∀ h vs,src2 h vs->∃ o,h.get? l2=some o) {xs ys:Array Value} {Q:Value->Shared->Prop} (q1:src1 s.heap xs) (q2:src2 s.heap ys)
   (h:∀ h',IsZip h' (s.heap.objs.size+4) (s.heap.objs.size+2) (s.heap.objs.size+3) .none->IsPair h' (s.heap.objs.size+2) (.ref s.heap.objs.size) (.ref (s.heap.objs.size+1)) ->
     IsPair h' (s.heap.objs.size+3) .none .none->at1 s.heap.objs.size 0 h'->at2 (s.heap.objs.size+1) 0 h' ->
     (∀ c o,s.heap.get? c=some o->h'.get? c=some o)->Q (.ref (s.heap.objs.size+4)) { s with heap:=h' }) (f1:ob1.isFreed=false) (f2:ob2.isFreed=false) :
   wpAny (model P w) A (call (.type "zip") [.ref l1,.ref l2]) Q E s:=by
 refine callType_new F.called_zip (by decide) (F.typeCall_zip_2 _ _) (F.newCall_zip_2 _ _) (fun obj=>F.args_object_init_3 obj _ _) F.entry_zip_new (Ff S1 S2 ne xs ys) ⟨q1,q2,?_⟩;have n0:(s.heap.push ob1).objs.size=s.heap.objs.size+1:=Heap.size_push ..;have n1:(zp1 s.heap ob1 ob2).objs.size=s.heap.objs.size+2:=by rw [Heap.size_push,n0]
 have n2:(zp2 s.heap ob1 ob2).objs.size=s.heap.objs.size+3:=by rw [Heap.size_push,n1]
 have n3:(zp3 s.heap ob1 ob2).objs.size=s.heap.objs.size+4:=by rw [Heap.size_push,n2]
 have c5:(zp4 s.heap ob1 ob2).get? (zp3 s.heap ob1 ob2).objs.size=some _:=Heap.get?_push_size _ rfl;have c4:(zp4 s.heap ob1 ob2).get? (zp2 s.heap ob1 ob2).objs.size=some _:=Heap.get?_push_of_some _ (Heap.get?_push_size _ rfl);have c3:(zp4 s.heap ob1 ob2).get? (zp1 s.heap ob1 ob2).objs.size=some _:=Heap.get?_push_of_some _ (Heap.get?_push_of_some _ (Heap.get?_push_size _ rfl));have c2:(zp4 s.heap ob1 ob2).get? (s.heap.push ob1).objs.size=some ob2:=Heap.get?_push_of_some _ (Heap.get?_push_of_some _ (Heap.get?_push_of_some _ (Heap.get?_push_size _ f2)));have c1:(zp4 s.heap ob1 ob2).get? s.heap.objs.size=some ob1:=Heap.get?_push_of_some _ (Heap.get?_push_of_some _ (Heap.get?_push_of_some _ (Heap.get?_push_of_some _ (Heap.get?_push_size _ f1))));show _/\_;rw [n1,n2,n3] at c5;rw [n0,n1] at c3;rw [n2] at c4;rw [n0] at c2;rw [n3];exact ⟨⟨_,c5,rfl⟩,h _ c5 c3 c4 ((S1 P w).first _ _ c1) ((S2 P w).first _ _ c2) fun c o e=>Heap.get?_push_of_some _ (Heap.get?_push_of_some _ (Heap.get?_push_of_some _ (Heap.get?_push_of_some _ (Heap.get?_push_of_some _ e))))⟩
end
def SqX (K:PySem.W.Frag):Bool->Hp->Addr->List V->Prop
 | true,H,a,xs=>SqL K H a xs
 | false,H,a,xs=>SqT K H a xs
def Itz (K:PySem.W.Frag) (c d:Bool) (a b:Addr):It :=
 ⟨fun i H=>∃ xs ys x y,SqX K c H a xs/\SqX K d H b ys/\xs[i]?=some x/\ys[i]?=some y,
  fun i H v H'=>∃ p x y,H p=none/\v=.ref p/\H'=upd H p (.tup [x,y])/\(∀ xs,SqX K c H a xs->xs[i]?=some x)/\∀ ys,SqX K d H b ys->ys[i]?=some y,
  fun i H=>∃ xs ys,SqX K c H a xs/\SqX K d H b ys/\(xs.length<=i\/ys.length<=i)⟩
def Ut (a:Addr):Bool->Obj
 | true=>{ cls:=.type "list_iterator",data:=.fields #[.ref a,.int 0 0] }
 | false=>{ cls:=.type "tuple_iterator",data:=.fields #[.ref a,.int 0 0] }
def Lc (a:Addr):Bool->Heap->Array Value->Prop
 | true,h,vs=>h.IsList a vs
 | false,h,vs=>h.IsTuple a vs
def zAt (a:Addr):Bool->Addr->Nat->Heap->Prop
 | true,it,i,h=>h.IsListIter it a i
 | false,it,i,h=>h.IsTupleIter it a i
theorem fD (a:Addr) (c:Bool) (P:Program) (w:World):SubF P w a (Ut a c) (Lc a c) (zAt a c):=by
 cases c
 . exact OU a
 . exact NS a
theorem yL (a:Addr) (c:Bool):(Ut a c).isFreed=false:=by cases c <;> rfl
theorem qz (a:Addr) (c:Bool) (h:Heap) (vs:Array Value) (e:Lc a c h vs):∃ o,h.get? a=some o:=by
 cases c
 . obtain ⟨o,ho,_⟩:=e;exact ⟨o,ho⟩
 . obtain ⟨o,ho,_⟩:=e;exact ⟨o,ho⟩
theorem Inv.sqX {X:Cx} {pins:List (Addr × Obj)} {σ:St} {H:Hp} {s:Shared} {c:Bool} {a:Addr} {xs:List V} (I:Inv X pins σ H s) (h:SqX X.K c H a xs):∃ its:List Value,Vals xs its/\Lc a c s.heap its.toArray:=by
 cases c with
 | true =>
   obtain ⟨its,r,pl,_⟩:=I.list h;exact ⟨its,r,pl.isList⟩
 | false =>
   obtain ⟨its,r,⟨o,ho,hc,n,hd⟩,_⟩:=I.tuple h;exact ⟨its,r,⟨o,ho,hc,n,hd⟩⟩
theorem Inv.sqX_inj {X:Cx} {pins:List (Addr × Obj)} {σ:St} {H:Hp} {s:Shared} {c:Bool} {a:Addr} {xs ys:List V} (I:Inv X pins σ H s) (h:SqX X.K c H a xs) (h':SqX X.K c H a ys):xs=ys:=by
 cases c with
 | true=>exact I.list_inj h h'
 | false=>exact I.tuple_inj h h'
theorem Pn {P:Program} {w:World} {K:PySem.W.Frag} {elts:List Expr} {x1} {tpos:Pos} (c d:Bool) (a b z TI TO i1 i2:Addr) (D:ZAp z TI TO i1 i2 a b) :
   Turn P w K (.Tuple elts x1 tpos) (Itz K c d a b) [z,TI,TO,i1,i2] z (fun i h=>IsZip h z TI TO .none/\IsPair h TI (.ref i1) (.ref i2)/\(∃ u v,IsPair h TO u v)/\zAt a c i1 i h/\zAt b d i2 i h) where
 mem:=by simp
 obj:=fun i h t e he=>by
   obtain ⟨t1,t2,⟨u,v,t3⟩,t4,t5⟩:=t;simp only [List.mem_cons,List.mem_nil_iff,or_false] at he;rcases he with rfl|rfl|rfl|rfl|rfl
   . exact ⟨_,t1,fun v z=>by cases z⟩
   . exact ⟨_,t2,fun v z=>by cases z⟩
   . exact ⟨_,t3,fun v z=>by cases z⟩
   . exact (fD a c P w).obj _ _ _ t4
   . exact (fD b d P w).obj _ _ _ t5
 keep:=fun i h h' t k=>by
   obtain ⟨t1,t2,⟨u,v,t3⟩,t4,t5⟩:=t;exact ⟨k z (by simp) _ t1,k TI (by simp) _ t2,⟨u,v,k TO (by simp) _ t3⟩,(fD a c P w).atK _ _ _ _ t4 fun o e=>k i1 (by simp) o e,(fD b d P w).atK _ _ _ _ t5 fun o e=>k i2 (by simp) o e⟩
 item:=fun X e1 e2 e3 hc i pins s σ H E I f t g=>by
   subst e1 e2 e3;obtain ⟨t1,t2,⟨u,v,t3⟩,t4,t5⟩:=t;obtain ⟨xs,ys,x,y,s1,s2,hx,hy⟩:=g;obtain ⟨us,r1,q1⟩:=I.sqX s1;obtain ⟨vs,r2,q2⟩:=I.sqX s2;obtain ⟨xu,hxu,rx⟩:=r1.get hx;obtain ⟨yu,hyu,ry⟩:=r2.get hy;have hT:s.TypeIs (.ref z) "zip":=⟨_,t1,rfl⟩;unfold pyNext;refine wpAny_bind (wpAny_attempt (wpAny_callSpecial?_slot (name:=Str.ofString "__next__") hT F.slot_zip_next (wpAny_call_entry F.slot_zip_next hT F.entry_zip_next
     (Gg (fD a c _ _) (fD b d _ _) D t1 t2 t3 t4 t5 q1 q2 (x:=xu) (y:=yu) (by simpa using hxu) (by simpa using hyu) fun h' w1 w2 w3 w4 w5 w6 w7=>wpAny_pure ?_) (F.args_zip_next_1 _))))
   refine ⟨_,rfl,wpAny_letOwnedTupleGo_zip w1 fun h2 n1 n2=>?_⟩;have fz:∀ q∈[z,TI,TO,i1,i2],ly X pins H q:=f;have lt0:s.heap.objs.size≠z:=Nat.ne_of_gt (Heap.lt_size t1);have new:IsPair h2 s.heap.objs.size xu yu:=n2.extBut _ _ lt0 w5;have kp:∀ q o,q ∉ [z,TI,TO,i1,i2]->s.heap.get? q=some o->h2.get? q=some o:=fun q o hq e=>by
     simp only [List.mem_cons,List.mem_nil_iff,or_false,not_or] at hq;exact n2.extBut _ _ hq.1 (w7 q o hq.1 hq.2.2.1 hq.2.2.2.1 hq.2.2.2.2 e)
   have kTI:h2.get? TI=some _:=n2.extBut _ _ D.a1 (w7 TI _ D.a1 D.a5 D.a6 D.a7 t2);have Hn:∀ q u,H q=some u->q ∉ [z,TI,TO,i1,i2]:=fun q u e hq=>by rw [(fz q hq).1] at e;cases e
   have I2:Inv X pins σ H { s with heap:=h2 }:=by
     refine I.step (g':=s.gens) (d':=s.drawn) (t':=s.toks) (ch:=[z,TI,TO,i1,i2]) (fun q hq=>⟨(fz q hq).2.2.2.1,(fz q hq).2.1,(fz q hq).2.2.2.2.1,(fz q hq).2.2.2.2.2⟩) (fun q o _ _ hq e _=>kp q o hq e) (fun q o _ _ hq e _=>⟨o.slots,kp q o hq e⟩) (fun _ _ _ _ n=>n)
       (fun q o hq e=>⟨o,kp q o hq e⟩) (fun _ _ e=>e) (fun _ _ _ e=>e) (fun q ps e=>⟨#[],by rw [e];simp⟩) (fun m hm=>?_) (fun q u e=>?_) I.bare
     . obtain ⟨o,es,ep,ho,r⟩:=hm;exact ⟨o,es,ep,kp _ o (fun hq=>(fz _ hq).2.1 rfl) ho,r⟩
     . refine (I.hok q u e).stay (fun q' v hq' e'=>kp q' v ?_ e') (fun _ e'=>e') fun _ _ e'=>e';rcases hq' with rfl|hq'
       . exact Hn _ u e
       . exact Hn _ _ hq'
   have nH:H s.heap.objs.size=none:=I.fresh;have I3:Inv X pins σ (upd H s.heap.objs.size (.tup [x,y])) { s with heap:=h2 }:=by
     refine ⟨I2.ok,I2.os,I2.bare,?_,I2.loc,I2.cell,?_,fun n c e=>?_,fun p hp=>?_,fun q u e=>?_,I2.len⟩
     . refine ⟨I2.base.keep,I2.base.slot,fun q o e n hx=>?_,I2.base.there,fun q xs e=>?_,fun q o u e=>?_,fun q ps e=>?_⟩
       . have lt:q<X.s₀.heap.objs.size:=Heap.lt_size e;rw [ao (Nat.ne_of_lt (Nat.lt_of_lt_of_le lt I.sz))];exact I2.base.free q o e n hx
       . have e':=I2.base.tups q xs e;rw [ao (fun z=>by rw [z,nH] at e';cases e')];exact e'
       . have e':=I2.base.frzs q o u e;rw [ao (fun z=>by rw [z,nH] at e';cases e')];exact e'
       . obtain ⟨more,e'⟩:=I2.base.tbls q ps e;exact ⟨more,by rw [ao (fun z=>by rw [z,nH] at e';cases e')];exact e'⟩
     . rw [ao (Nat.ne_of_lt I.lt)];exact I2.free
     . obtain ⟨vv,o,ho,_⟩:=I.cell n c e;rw [ao (Nat.ne_of_lt (Heap.lt_size ho))];exact I2.freeC n c e
     . obtain ⟨k1,k2,k3⟩:=I.pin p hp;rw [ao (Nat.ne_of_lt (Heap.lt_size k1))];exact I2.pin p hp
     . by_cases hq:q=s.heap.objs.size
       . subst hq;rw [ah] at e;cases e;exact ⟨by show 2<=sizeLine;decide,[xu,yu],.cons rx (.cons ry .nil),_,new,rfl,_,rfl⟩
       . rw [ao hq] at e;refine (I2.hok q u e).stay (fun _ _ _ e'=>e') (fun q' e'=>?_) fun q' xs e'=>?_
         . rw [ao (fun z=>by rw [z,nH] at e';cases e')];exact e'
         . rw [ao (fun z=>by rw [z,nH] at e';cases e')];exact e'
   refine ⟨.ref s.heap.objs.size,_,I3,rfl,⟨_,x,y,nH,rfl,rfl,fun xs' q=>?_,fun ys' q=>?_⟩,⟨n1,kTI,⟨_,_,n2.extBut _ _ D.a2 w2⟩,(fD a c X.prog X.w).atK _ _ _ _ w3 fun o e=>n2.extBut _ _ D.a3 e,(fD b d X.prog X.w).atK _ _ _ _ w4 fun o e=>n2.extBut _ _ D.a4 e⟩,fun q hq=>?_⟩
   . rw [<- I.sqX_inj s1 q];exact hx
   . rw [<- I.sqX_inj s2 q];exact hy
   . have hlt:q<s.heap.objs.size:=by
       simp only [List.mem_cons,List.mem_nil_iff,or_false] at hq;rcases hq with rfl|rfl|rfl|rfl|rfl
       . exact Heap.lt_size t1
       . exact Heap.lt_size t2
       . exact Heap.lt_size t3
       . exact let ⟨o,e,_⟩:=(fD a c X.prog X.w).obj _ _ _ t4;Heap.lt_size e
       . exact let ⟨o,e,_⟩:=(fD b d X.prog X.w).obj _ _ _ t5;Heap.lt_size e
     rw [ao (Nat.ne_of_lt hlt)];exact (fz q hq).1
 done:=fun X e1 e2 e3 hc i pins s σ H E I f t g=>by
   subst e1 e2 e3;obtain ⟨t1,t2,⟨u,v,t3⟩,t4,t5⟩:=t;obtain ⟨xs,ys,s1,s2,hend⟩:=g;obtain ⟨us,r1,q1⟩:=I.sqX s1;obtain ⟨vs,r2,q2⟩:=I.sqX s2;have fz:∀ q∈[z,TI,TO,i1,i2],ly X pins H q:=f;have hh:X.A.handled=none:=I.ok.hd hc;have hT:s.TypeIs (.ref z) "zip":=⟨_,t1,rfl⟩;have hend':us.toArray[i]?=none\/vs.toArray[i]?=none:=by
     rcases hend with e|e
     . exact .inl (by have:=r1.length;simp;omega)
     . exact .inr (by have:=r2.length;simp;omega)
   unfold pyNext;refine wpAny_bind (wpAny_attempt (wpAny_callSpecial?_slot (name:=Str.ofString "__next__") hT F.slot_zip_next (wpAny_call_entry F.slot_zip_next hT F.entry_zip_next
     (Jo (fD a c _ _) (fD b d _ _) hh D t1 t2 t3 t4 t5 q1 q2 hend' fun h' e hk he=>?_) (F.args_zip_next_1 _))))
   obtain ⟨o,ho,hcl⟩:=he;refine wpAny_bind (wpAny_isInstance (T:="StopIteration") (b:=true) ⟨o,ho,hcl⟩ isSubtype_stop (wpAny_pure ⟨rfl,?_⟩));have kp:∀ q o,q ∉ [z,TI,TO,i1,i2]->s.heap.get? q=some o->h'.get? q=some o:=fun q o hq e=>by
     simp only [List.mem_cons,List.mem_nil_iff,or_false,not_or] at hq;exact hk q o hq.1 hq.2.2.1 hq.2.2.2.1 hq.2.2.2.2 e
   have Hn:∀ q u,H q=some u->q ∉ [z,TI,TO,i1,i2]:=fun q u e hq=>by rw [(fz q hq).1] at e;cases e
   refine I.step (g':=s.gens) (d':=s.drawn) (t':=s.toks) (ch:=[z,TI,TO,i1,i2]) (fun q hq=>⟨(fz q hq).2.2.2.1,(fz q hq).2.1,(fz q hq).2.2.2.2.1,(fz q hq).2.2.2.2.2⟩) (fun q o _ _ hq e _=>kp q o hq e) (fun q o _ _ hq e _=>⟨o.slots,kp q o hq e⟩) (fun _ _ _ _ n=>n)
     (fun q o hq e=>⟨o,kp q o hq e⟩) (fun _ _ e=>e) (fun _ _ _ e=>e) (fun q ps e=>⟨#[],by rw [e];simp⟩) (fun m hm=>?_) (fun q u e=>?_) I.bare
   . obtain ⟨o,es,ep,ho,r⟩:=hm;exact ⟨o,es,ep,kp _ o (fun hq=>(fz _ hq).2.1 rfl) ho,r⟩
   . refine (I.hok q u e).stay (fun q' v hq' e'=>kp q' v ?_ e') (fun _ e'=>e') fun _ _ e'=>e';rcases hq' with rfl|hq'
     . exact Hn _ u e
     . exact Hn _ _ hq'
 self:=fun A i s Q E t q=>wpAny_pyIter_zip t.1 q
end L2
namespace L2
open PySem PySem.Spec PyProof.Rows
section
variable {X:Cx} {pins:List (Addr × Obj)} {σ:St} {H H2:Hp} {s s2:Shared} {a:Addr} {o:HO}
theorem Inv.track (I:Inv X pins σ H s) (I2:Inv X pins σ H2 s2) (ha:s.heap.objs.size<=a) (hn:H2 a=none) (new:ObjOk X.prog X.w (upd H2 a o) s2.heap a o):Inv X pins σ (upd H2 a o) s2:=by
 refine ⟨I2.ok,I2.os,I2.bare,?_,I2.loc,I2.cell,?_,fun n c e=>?_,fun p hp=>?_,fun q u e=>?_,I2.len⟩
 . refine ⟨I2.base.keep,I2.base.slot,fun q oq e n hx=>?_,I2.base.there,fun q xs e=>?_,fun q oq u e=>?_,fun q ps e=>?_⟩
   . rw [ao (Nat.ne_of_lt (Nat.lt_of_lt_of_le (Nat.lt_of_lt_of_le (Heap.lt_size e) I.sz) ha))];exact I2.base.free q oq e n hx
   . have e':=I2.base.tups q xs e;rw [ao (fun z=>by rw [z,hn] at e';cases e')];exact e'
   . have e':=I2.base.frzs q oq u e;rw [ao (fun z=>by rw [z,hn] at e';cases e')];exact e'
   . obtain ⟨more,e'⟩:=I2.base.tbls q ps e;exact ⟨more,by rw [ao (fun z=>by rw [z,hn] at e';cases e')];exact e'⟩
 . rw [ao (Nat.ne_of_lt (Nat.lt_of_lt_of_le I.lt ha))];exact I2.free
 . obtain ⟨vv,oc,ho,_⟩:=I.cell n c e;rw [ao (Nat.ne_of_lt (Nat.lt_of_lt_of_le (Heap.lt_size ho) ha))];exact I2.freeC n c e
 . obtain ⟨k1,k2,k3⟩:=I.pin p hp;rw [ao (Nat.ne_of_lt (Nat.lt_of_lt_of_le (Heap.lt_size k1) ha))];exact I2.pin p hp
 . by_cases hq:q=a
   . subst hq;rw [ah] at e;cases e;exact new
   . rw [ao hq] at e;refine (I2.hok q u e).stay (fun _ _ _ e'=>e') (fun q' e'=>?_) fun q' xs e'=>?_
     . rw [ao (fun z=>by rw [z,hn] at e';cases e')];exact e'
     . rw [ao (fun z=>by rw [z,hn] at e';cases e')];exact e'
end
theorem KG:typeLookup (.type "list_reverseiterator") "__len__"=pure none:=by rw [typeLookup_type,builtinLookup_eq_fast];kernel_rfl
theorem Pu:typeLookup (.type "list_reverseiterator") "__length_hint__"=pure (some (.builtin "list_reverseiterator.__length_hint__")):=by rw [typeLookup_type,builtinLookup_eq_fast];kernel_rfl
section
variable {P:Program} {w:World} {A:Around} {E:Value->Shared->Prop} {s:Shared}
theorem Pe {it:Addr} {Q:Bool->Shared->Prop} (hT:s.TypeIs (.ref it) "list_reverseiterator") (h:Q false s):wpAny (model P w) A (Builtin.List.listLengthHint (.ref it)) Q E s:=by
 unfold Builtin.List.listLengthHint;refine wpAny_bind (wpAny_specialOf hT KG ?_);refine wpAny_ite_split (fun hab=>absurd hab (by decide)) (fun _=>?_);refine wpAny_ite_split (fun hab=>absurd hab (by decide)) (fun _=>?_);refine wpAny_bind (wpAny_specialOf hT Pu ?_);generalize hid:("list_reverseiterator.__length_hint__":String)=id0
 wp_delta
 rw [show splitId id0=some ("list_reverseiterator","__length_hint__") from by subst hid;decide +kernel];subst hid;refine wpAny_bind (wpAny_isInstance (T:="list_reverseiterator") (b:=true) hT (by rw [isSubtype_type];kernel_rfl) ?_);refine wpAny_ite_split (fun hab=>absurd hab (by decide)) (fun _=>?_);refine wpAny_ite_split (fun _=>?_) (fun hab=>absurd (by decide +kernel) hab);refine wpAny_ite_split (fun hab=>absurd hab (by decide +kernel)) (fun _=>?_);exact wpAny_pure h
end
end L2
namespace L2
open PySem PySem.Spec PyProof.Rows
def KP (I l:Addr) (its:Array Value) (i:Nat) (h:Heap):Prop:=i<=its.size/\h.IsRevIter I l ((its.size:Int) - 1 - (i:Int))/\h.IsList l its
def LN (its:Array Value) (i:Nat) (v:Value):Prop:=its[its.size - 1 - i]?=some v
section
variable {P:Program} {w:World} {A:Around} {E:Value->Shared->Prop} {s:Shared} {R:Result->Shared->Prop}
theorem Mc (hh:A.handled=none) {I l S:Addr} {its:Array Value} {res:Value} {c0:Nat} (st:KP I l its 0 s.heap) (ne:l≠I) (n1:S≠I) (n2:S≠l) (hz:its.size<=sizeLine)
   (hS:s.heap.get? S=some { cls:=.type "list",data:=.seq #[] c0 })
   (hR:∀ s' acc c',Moved [S,I] (fun a b=>b=a) s s'->s'.heap.get? S=some { cls:=.type "list",dict:=none,data:=.seq acc c',slots:=#[] }->ItemsOf (LN its) acc its.size->R (.ok (.ret res)) s') :
   wpAny (model P w) A.in1 (Builtin.List.listExtendWith (.ref S) (.ref I) res) (fun fn s'=>match fn with|.done f=>R (.ok f) s'|.again c'=>c'.quiet=true/\codeAny (model P w) A c' R s') (fun e s'=>R (.error e) s') s:=by
 have W:=(Walks.listRev (prog:=P) (w:=w) (A:=A.in1) hh I l ne its).toS;have hT:s.TypeIs (.ref I) "list_reverseiterator":=st.2.1.typeIs;unfold Builtin.List.listExtendWith;refine wpAny_bind (wpAny_typeOf hT ?_);have t1:Builtin.List.listSameRef (.ref S) (.ref I)=false:=by simp [Builtin.List.listSameRef,n1]
 have t2:(Value.type "list_reverseiterator" == Value.type "list")=false:=by decide
 have t3:(Value.type "list_reverseiterator" == Value.type "tuple")=false:=by decide
 simp only [t1,t2,t3,Bool.or_false,Bool.false_eq_true,if_false];refine wpAny_bind (wpAny_pyIter_revIter st.2.1 ?_);refine wpAny_bind (wpAny_holding (Pe hT ?_));refine wpAny_ite_split (fun hab=>absurd hab (by decide +kernel)) (fun _=>?_);refine wpAny_pure ⟨plainId_quiet F.plain_extend_loop _,codeAny_extend_loopS W hz S (by simp [n1,n2]) res its.size 0 _ #[] c0 rfl (Nat.zero_le _) st hS (ItemsOf.nil _) fun s' acc c' hm hS' hacc=>?_⟩;exact hR s' acc c' hm hS' hacc
theorem E8 (hh:A.handled=none) {I l:Addr} {its:Array Value} {Q:Value->Shared->Prop} (st:KP I l its 0 s.heap) (ne:l≠I) (hz:its.size<=sizeLine)
   (hQ:∀ (s':Shared) (acc:Array Value) (c':Nat),s'.os=s.os->s'.gens=s.gens->s'.drawn=s.drawn->(∀ b o,b≠I->s.heap.get? b=some o->s'.heap.get? b=some o)->s'.heap.get? s.heap.objs.size=some { cls:=.type "list",dict:=none,data:=.seq acc c',slots:=#[] }->ItemsOf (LN its) acc its.size->Q (.ref s.heap.objs.size) s') :
   wpAny (model P w) A (call (.type "list") [.ref I]) Q E s:=by
 obtain ⟨oI,hoI,_⟩:=id st.2.1;obtain ⟨ol,hol,_⟩:=id st.2.2;have n1:s.heap.objs.size≠I:=Nat.ne_of_gt (Heap.lt_size hoI);have n2:s.heap.objs.size≠l:=Nat.ne_of_gt (Heap.lt_size hol);refine callType_codes (Q₁:=fun obj s₁=>obj=.ref s.heap.objs.size/\s₁={ s with heap:=s.heap.push { cls:=.type "list",data:=.seq #[] } }) F.called_list (F.typeCall_list_1 _) F.entry_list_init (code_list_new _ ⟨rfl,rfl⟩) fun obj s₁ h₁=>?_;obtain ⟨rfl,rfl⟩:=h₁;have b1:(s.heap.push { cls:=.type "list",data:=.seq #[] }).get? s.heap.objs.size=some { cls:=.type "list",data:=.seq #[] }:=Heap.get?_push_size _ rfl;refine ⟨⟨_,b1,rfl⟩,F.args_list_init_2 _ _,?_⟩;show wpAny (model P w) A.in1.in1 (do let old <- Builtin.List.listItems (.ref s.heap.objs.size);Builtin.List.listUpdate (.ref s.heap.objs.size) (fun _=>#[]);letGo old.toList.reverse;Builtin.List.listExtendWith (.ref s.heap.objs.size) (.ref I) .none) _ _ _;refine wpAny_bind ?_;unfold Builtin.List.listItems;refine wpAny_bind (wpAny_seqItems b1 rfl (wpAny_pure ?_));show wpAny (model P w) A.in1.in1 (updateSeq s.heap.objs.size (fun _=>#[]) >>= fun _=>letGo (#[]:Array Value).toList.reverse >>= fun _=>Builtin.List.listExtendWith (.ref s.heap.objs.size) (.ref I) .none) _ _ _;refine wpAny_bind (wpAny_updateSeq b1 rfl ?_);have b2:=Heap.get?_update_self (Obj.mapSeq (fun _=>(#[]:Array Value))) b1 rfl;have kk:∀ b o,s.heap.get? b=some o->((s.heap.push { cls:=.type "list",data:=.seq #[] }).update s.heap.objs.size (Obj.mapSeq (fun _=>(#[]:Array Value)))).get? b=some o :=
   fun b o e=>(Heap.get?_update_other _ _ (Nat.ne_of_gt (Heap.lt_size e))).trans (Heap.get?_push_of_some _ e)
 refine wpAny_bind (wpAny_letGo ?_);refine Mc (A:=A.in1) hh (I:=I) (l:=l) (its:=its) ⟨st.1,st.2.1.at fun o e=>kk _ o e,st.2.2.at fun o e=>kk _ o e⟩ ne n1 n2 hz b2 fun s' acc c' hm hS' hacc=>?_;refine ⟨rfl,hQ s' acc c' hm.os hm.gens hm.drawn (fun b o hb e=>hm.heap b o (fun z=>?_) (kk b o e)) hS' hacc⟩;simp only [List.mem_cons,List.mem_nil_iff,or_false] at z;rcases z with z|z
 . exact absurd (Heap.lt_size e) (by rw [z];exact Nat.lt_irrefl _)
 . exact hb z
end
theorem M6 {its acc:List Value} (h:ItemsOf (LN its.toArray) acc.toArray its.toArray.size):acc=its.reverse:=by
 obtain ⟨h1,h2⟩:=h;simp only [List.size_toArray] at h1;refine List.ext_getElem? fun j=>?_;by_cases hj:j<acc.length
 . have q:=h2 j acc[j] (by simp [hj]);unfold LN at q;rw [List.getElem?_eq_getElem hj,List.getElem?_reverse (by omega)];simp only [List.size_toArray,List.getElem?_toArray] at q;exact q.symm
 . rw [List.getElem?_eq_none (by omega),List.getElem?_eq_none (by rw [List.length_reverse];omega)]
section
variable {X:Cx} {e:Expr} {te:TE} {p1 p2 pos pos2:Pos}
def RK (K:PySem.W.Frag) (te:TE):TE:=fun σ H Q=>te σ H fun x H1=>∃ a ys,x=.ref a/\SqL K H1 a ys/\∀ l,H1 l=none->Q (.ref l) (upd H1 l (.lst ys.reverse))
theorem SI {pins:List (Addr × Obj)} {s:Shared} {σ:St} {H:Hp} {R:List Value->Shared->Prop} (hg:Gl X "reversed") (hm:X.mg "reversed"=none) (he:PE X e te) (I:Inv X pins σ H s) {Q':V->Hp->Prop} (h:te σ H Q')
   (h1:starEach [.Call (.Name "reversed" p2) [e] [] pos2] X.env=[(false,eval (.Call (.Name "reversed" p2) [e] [] pos2) X.env)]) (h2:starEach [e] X.env=[(false,eval e X.env)])
   (k:∀ s1 H1 x a ys (its:List Value),Inv X pins σ H1 s1->Q' x H1->x=.ref a->SqL X.K H1 a ys->Vals ys its->KP s1.heap.objs.size a its.toArray 0 (s1.heap.push (revObj a ((its.toArray.size:Int) - 1)))->a≠s1.heap.objs.size->its.toArray.size<=sizeLine ->
     R [.ref s1.heap.objs.size] { s1 with heap:=s1.heap.push (revObj a ((its.toArray.size:Int) - 1)) })
   (sq:∀ x H1,Q' x H1->∃ a ys,x=.ref a/\SqL X.K H1 a ys) :
   wpAny (model X.prog X.w) X.A (spliced (backTo pos (starEach [.Call (.Name "reversed" p2) [e] [] pos2] X.env))) R X.xe s:=by
 rw [h1];show wpAny _ _ (spliced ((false,eval (.Call (.Name "reversed" p2) [e] [] pos2) X.env)::backTo pos [])) _ _ s;refine Calls.spliced_cons ?_;refine Call_ (kH I hg hm boot_reversed (PyProof.Rows.callWith_type1 ?_ h2 rfl));rw [h2];show wpAny _ _ (spliced ((false,eval e X.env)::backTo pos2 [])) _ _ s;refine Calls.spliced_cons (bx (he pins s σ H _ I h) fun u s1 x H1 I1 r1 q1=>Calls.spliced_nil ?_);obtain ⟨a,ys,ex,sa⟩:=sq x H1 q1;subst ex;cases r1;obtain ⟨its,rv,pl,hz⟩:=I1.list sa;have ne:a≠s1.heap.objs.size:=Nat.ne_of_lt pl.lt;refine call_reversed_list pl.isList (Calls.spliced_nil ?_);refine k s1 H1 _ a ys its I1 q1 rfl sa rv ⟨Nat.zero_le _,⟨_,Heap.get?_push_size _ rfl,rfl,?_⟩,pl.isList.push _⟩ ne (by rw [List.size_toArray,<- rv.length];exact hz);simp [revObj]
theorem SY (hc:X.calm=true) (hg:Gl X "reversed") (hm:X.mg "reversed"=none) (hg1:Gl X "list") (hm1:X.mg "list"=none) (he:PE X e te)
   (h1:starEach [.Call (.Name "reversed" p2) [e] [] pos2] X.env=[(false,eval (.Call (.Name "reversed" p2) [e] [] pos2) X.env)]:=by rfl) (h2:starEach [e] X.env=[(false,eval e X.env)]:=by rfl) :
   PE X (.Call (.Name "list" p1) [.Call (.Name "reversed" p2) [e] [] pos2] [] pos) (RK X.K te):=by
 intro pins s σ H Q I h;refine Call_ (kH I hg1 hm1 boot_list (PyProof.Rows.callWith_type1 ?_ h1 rfl));refine SI hg hm he I h h1 h2 (fun s1 H1 x a ys its I1 q1 ex sa rv st ne hz=>?_) fun x H1 ⟨a,ys,ex,sa,_⟩=>⟨a,ys,ex,sa⟩;obtain ⟨a',ys',ex',sa',q⟩:=q1;rw [ex] at ex';cases ex';have ey:=I1.list_inj sa sa';subst ey;refine E8 (I1.ok.hd hc) st ne hz fun s' acc c' e1 e2 e3 k5 e5 hacc=>?_;obtain ⟨hs,gs,ds,ts,os'⟩:=s';simp only at e1 e2 e3 k5 e5;subst e1 e2 e3;obtain ⟨al,rfl⟩:∃ al:List Value,acc=al.toArray:=⟨acc.toList,by simp⟩;have er:=M6 hacc;subst er;have kk:∀ b u,s1.heap.get? b=some u->hs.get? b=some u:=fun b u eb=>k5 b u (Nat.ne_of_lt (Heap.lt_size eb)) (Heap.get?_push_of_some _ eb);have I2:Inv X pins σ H1 { s1 with heap:=hs,toks:=ts }:=I1.kept kk;have sz:(s1.heap.push (revObj a ((its.toArray.size:Int) - 1))).objs.size=s1.heap.objs.size+1:=Heap.size_push ..;rw [sz] at e5;show EP X pins σ Q (.ref (s1.heap.push (revObj a ((its.toArray.size:Int) - 1))).objs.size) _;rw [sz];have nH:H1 (s1.heap.objs.size+1)=none:=I1.hok.fresh (Nat.le_succ _);refine ⟨.ref _,_,I1.track (o:=.lst ys.reverse) I2 (Nat.le_succ _) nH ⟨?_,its.reverse,c',rv.reverse,e5⟩,rfl,q _ nH⟩;rw [List.length_reverse,rv.length]
 simpa using hz
end
end L2
namespace L2
open PySem PySem.Spec PyProof.Rows
theorem gj {a b:Nat} (h:a<b\/b<a):a≠b:=by omega
theorem Ty (n a b:Nat) (h1:a<n) (h2:b<n):ZAp (n+4) (n+2) (n+3) n (n+1) a b :=
 ⟨gj (by omega),gj (by omega),gj (by omega),gj (by omega),gj (by omega),gj (by omega),gj (by omega),gj (by omega),gj (by omega),gj (by omega),⟨gj (by omega),gj (by omega),gj (by omega),gj (by omega)⟩,⟨gj (by omega),gj (by omega),gj (by omega),gj (by omega)⟩⟩
section
variable {X:Cx}
def Qz (K:PySem.W.Frag) (c d:Bool) (ta:TA):TI:=fun σ H R=>ta σ H fun vs H1=>∃ a b,vs=[.ref a,.ref b]/\(∃ xs,SqX K c H1 a xs)/\(∃ ys,SqX K d H1 b ys)/\R (Itz K c d a b) H1
theorem T2 {elts:List Expr} {x1} {tpos:Pos} {ea eb:Expr} {ta:TA} {p pos:Pos} (c d:Bool) (hg:Gl X "zip") (hm:X.mg "zip"=none) (ha:PA X [ea,eb] ta)
   (hs:starEach [ea,eb] X.env=[(false,eval ea X.env),(false,eval eb X.env)]:=by rfl) (hs2:starEach [eb] X.env=[(false,eval eb X.env)]:=by rfl) :
   PI X (.Tuple elts x1 tpos) (.Call (.Name "zip" p) [ea,eb] [] pos) (Qz X.K c d ta):=by
 intro pins s σ H R I h;refine Call_ (kH I hg hm boot_zip (PyProof.Rows.callWith_type1 (tq (ha pos pins s σ H _ I h) fun us s1 vs H1 I1 r1 q1=>?_) (by rw [hs,hs2]) (by rw [hs2];rfl)));obtain ⟨a,b,e,⟨xs,sa⟩,⟨ys,sb⟩,q⟩:=q1;subst e;obtain ⟨u,v,rfl,ru,rv⟩:=K6 r1;cases ru;cases rv;obtain ⟨us,r1,q1⟩:=I1.sqX sa;obtain ⟨vs,r2,q2⟩:=I1.sqX sb;obtain ⟨oa,hoa⟩:=qz a c _ _ q1;obtain ⟨ob,hob⟩:=qz b d _ _ q2;have la:=Heap.lt_size hoa;have lb:=Heap.lt_size hob;refine Qc (fD a c) (fD b d) (qz b d) q1 q2 (fun h' w1 w2 w3 w4 w5 w6=>?_) (yL a c) (yL b d);refine wpAny_pyIter_zip w1 ?_;have D:=Ty s1.heap.objs.size a b la lb;refine ⟨_,[s1.heap.objs.size+4,s1.heap.objs.size+2,s1.heap.objs.size+3,s1.heap.objs.size,s1.heap.objs.size+1],_,_,H1,rfl,I1.kept (t':=s1.toks) w6,Pn c d a b _ _ _ _ _ D,⟨w1,w2,⟨_,_,w3⟩,w4,w5⟩,fun q hq=>?_,q⟩;have hle:s1.heap.objs.size<=q:=by
   simp only [List.mem_cons,List.mem_nil_iff,or_false] at hq;rcases hq with rfl|rfl|rfl|rfl|rfl
   . exact Nat.le_add_right _ 4
   . exact Nat.le_add_right _ 2
   . exact Nat.le_add_right _ 3
   . exact Nat.le_refl _
   . exact Nat.le_add_right _ 1
 exact I1.fpOk hle (I1.hok.fresh hle)
end
end L2
namespace Pb
structure Road where
 a:Int
 b:Int
 t:Int
 u:Int
 deriving DecidableEq
def M8 (m:Int) (rs:List Road):Prop:=∀ S:Int->Prop,S 0->(∀ r∈rs,(S r.a↔S r.b))->∀ v,0<=v->v<m->S v
structure RoadOk (m:Int) (r:Road):Prop where
 a0:0<=r.a
 a1:r.a<m
 b0:0<=r.b
 b1:r.b<m
 ne:r.a≠r.b
 t0:2<=r.t
 t1:r.t<=1000000
 u0:2<=r.u
 u1:r.u<=1000000
structure Good (m:Int) (rs:List Road):Prop where
 m1:1<=m
 m24:m<=24
 len:(rs.length:Int)=m - 1
 ok:∀ r∈rs,RoadOk m r
 jn:M8 m rs
theorem lR {α:Type} [DecidableEq α]:∀ {l l':List α},l.Nodup->(∀ x∈l,x∈l')->l.length<=l'.length
 | [],_,_,_=>Nat.zero_le _
 | x::r,l',hn,hs=>by
   obtain ⟨h1,h2⟩:=List.nodup_cons.mp hn;have hx:x∈l':=hs x List.mem_cons_self;have:r.length<=(l'.erase x).length:=lR h2 fun y hy=>(List.mem_erase_of_ne (fun (e:y=x)=>h1 (by rw [<- e];exact hy))).mpr (hs y (List.mem_cons_of_mem _ hy));rw [List.length_erase_of_mem hx] at this;have hp:0<l'.length:=List.length_pos_of_mem hx;rw [List.length_cons];omega
def below (n:Nat):List Int:=(List.range n).map fun (k:Nat)=>(k:Int)
theorem gB {n:Nat} {v:Int}:v∈below n↔0<=v/\v<n:=by
 unfold below;rw [List.mem_map]
 constructor
 . rintro ⟨k,hk,rfl⟩;have:=List.mem_range.mp hk;omega
 . rintro ⟨h0,h1⟩;exact ⟨v.toNat,List.mem_range.mpr (by omega),by omega⟩
theorem aY (n:Nat):(below n).length=n:=by simp [below]
theorem kQ (n:Nat):(below n).Nodup:=by
 unfold below;refine List.Pairwise.map _ (fun a b h=>?_) (List.nodup_range (n:=n));intro e;exact h (by omega)
theorem cH {m:Int} {l:List Int} (hm:0<=m) (hn:l.Nodup) (h:∀ x∈l,0<=x/\x<m):(l.length:Int)<=m:=by
 have:=lR (l':=below m.toNat) hn fun x hx=>gB.mpr ⟨(h x hx).1,by have:=(h x hx).2;omega⟩;rw [aY] at this;omega
theorem Qh {m:Int} {l:List Int} (hm:0<=m) (h:∀ v,0<=v->v<m->v∈l):m<=(l.length:Int):=by
 have:=lR (l:=below m.toNat) (l':=l) (kQ _) fun x hx=>by
   obtain ⟨h0,h1⟩:=gB.mp hx;exact h x h0 (by omega)
 rw [aY] at this;omega
def sG (p:Int) (r:Road):List Int:=(if r.a=p then [r.b] else [])++(if r.b=p then [r.a] else [])
def cw (rs:List Road) (p:Int):List Int:=rs.flatMap (sG p)
theorem qY {rs:List Road} {p e:Int}:e∈cw rs p↔∃ r∈rs,(r.a=p/\r.b=e)\/(r.b=p/\r.a=e):=by
 unfold cw sG;rw [List.mem_flatMap]
 constructor
 . rintro ⟨r,hr,h⟩;refine ⟨r,hr,?_⟩;rcases List.mem_append.mp h with h|h
   . by_cases c:r.a=p
     . rw [if_pos c] at h;exact .inl ⟨c,(List.mem_singleton.mp h).symm⟩
     . rw [if_neg c] at h;cases h
   . by_cases c:r.b=p
     . rw [if_pos c] at h;exact .inr ⟨c,(List.mem_singleton.mp h).symm⟩
     . rw [if_neg c] at h;cases h
 . rintro ⟨r,hr,h⟩;refine ⟨r,hr,List.mem_append.mpr ?_⟩;rcases h with ⟨h1,h2⟩|⟨h1,h2⟩
   . exact .inl (by rw [if_pos h1,h2];exact List.mem_singleton.mpr rfl)
   . exact .inr (by rw [if_pos h1,h2];exact List.mem_singleton.mpr rfl)
theorem Gb (rs:List Road) (p:Int):(cw rs p).length<=2*rs.length:=by
 unfold cw
 induction rs with
 | nil=>simp
 | cons r rs ih =>
   rw [List.flatMap_cons,List.length_append,List.length_cons];have:(sG p r).length<=2:=by
     unfold sG;rw [List.length_append];by_cases c:r.a=p <;> by_cases d:r.b=p <;> simp [c,d]
   omega
theorem sj (rs:List Road) (r:Road) (p:Int):cw (rs++[r]) p=cw rs p++sG p r:=by
 unfold cw;rw [List.flatMap_append];simp
def Cb (c:List Int × List Int) (e:Int):List Int × List Int:=if e∈c.1 then c else (c.1++[e],c.2++[e])
structure JInv (m:Int) (rs:List Road) (ks ws:List Int):Prop where
 nd:ks.Nodup
 zero:0∈ks
 rng:∀ k∈ks,0<=k/\k<m
 sub:∀ w∈ws,w∈ks
 cl:∀ k∈ks,k ∉ ws->∀ e∈cw rs k,e∈ks
 wl:ws.length<=ks.length
theorem L9 {l:List Int} {e:Int} (h:l.Nodup) (he:e ∉ l):(l++[e]).Nodup:=by
 rw [List.nodup_append];refine ⟨h,by simp,fun a ha b hb=>?_⟩;rw [List.mem_singleton.mp hb];exact fun z=>he (z ▸ ha)
structure JMid (m:Int) (rs:List Road) (p:Int) (es ks ws ks0:List Int) (n0:Nat):Prop where
 nd:ks.Nodup
 zero:0∈ks
 rng:∀ k∈ks,0<=k/\k<m
 sub:∀ w∈ws,w∈ks
 cl:∀ k∈ks,k ∉ ws->k=p\/∀ e∈cw rs k,e∈ks
 seen:∀ e∈es,e∈ks
 pin:p∈ks
 mu:ks.length+n0=ks0.length+ws.length
 up:ks0.length<=ks.length
 wl:ws.length<=ks.length
theorem JMid.start {m:Int} {rs:List Road} {ks ws:List Int} {p:Int} (h:JInv m rs ks (ws++[p])):JMid m rs p [] ks ws ks ws.length where
 nd:=h.nd
 zero:=h.zero
 rng:=h.rng
 sub:=fun w hw=>h.sub w (List.mem_append_left _ hw)
 cl:=fun k hk hw=>by
   by_cases e:k=p
   . exact .inl e
   . exact .inr (h.cl k hk fun z=>by
       rcases List.mem_append.mp z with z|z
       . exact hw z
       . exact e (List.mem_singleton.mp z))
 seen:=fun e he=>by cases he
 pin:=h.sub p (List.mem_append_right _ (List.mem_singleton.mpr rfl))
 mu:=rfl
 up:=Nat.le_refl _
 wl:=by have:=h.wl;rw [List.length_append] at this;simp at this;omega
theorem JMid.step {m:Int} {rs:List Road} {p:Int} {es ks ws ks0:List Int} {n0:Nat} {e:Int} (h:JMid m rs p es ks ws ks0 n0) (h0:0<=e) (h1:e<m) :
   JMid m rs p (es++[e]) (Cb (ks,ws) e).1 (Cb (ks,ws) e).2 ks0 n0:=by
 unfold Cb;by_cases c:e∈ks
 . rw [if_pos c];refine ⟨h.nd,h.zero,h.rng,h.sub,h.cl,fun x hx=>?_,h.pin,h.mu,h.up,h.wl⟩;rcases List.mem_append.mp hx with z|z
   . exact h.seen x z
   . rw [List.mem_singleton.mp z];exact c
 . rw [if_neg c];dsimp only;refine ⟨L9 h.nd c,List.mem_append_left _ h.zero,fun k hk=>?_,fun w hw=>?_,fun k hk hw=>?_,fun x hx=>?_,List.mem_append_left _ h.pin,?_,by have:=h.up;simp;omega,by have:=h.wl;simp;exact this⟩
   . rcases List.mem_append.mp hk with z|z
     . exact h.rng k z
     . rw [List.mem_singleton.mp z];exact ⟨h0,h1⟩
   . rcases List.mem_append.mp hw with z|z
     . exact List.mem_append_left _ (h.sub w z)
     . exact List.mem_append_right _ z
   . rcases List.mem_append.mp hk with z|z
     . rcases h.cl k z fun y=>hw (List.mem_append_left _ y) with y|y
       . exact .inl y
       . exact .inr fun x hx=>List.mem_append_left _ (y x hx)
     . exact absurd (List.mem_append_right _ z) hw
   . rcases List.mem_append.mp hx with z|z
     . exact List.mem_append_left _ (h.seen x z)
     . exact List.mem_append_right _ z
   . have:=h.mu;simp only [List.length_append,List.length_cons,List.length_nil];omega
theorem JMid.done {m:Int} {rs:List Road} {p:Int} {ks ws ks0:List Int} {n0:Nat} (h:JMid m rs p (cw rs p) ks ws ks0 n0):JInv m rs ks ws where
 nd:=h.nd
 zero:=h.zero
 rng:=h.rng
 sub:=h.sub
 cl:=fun k hk hw=>by
   rcases h.cl k hk hw with z|z
   . rw [z];exact h.seen
   . exact z
 wl:=h.wl
theorem JInv.start {m:Int} {rs:List Road} (hm:1<=m):JInv m rs [0] [0] where
 nd:=by simp
 zero:=by simp
 rng:=fun k hk=>by rw [List.mem_singleton.mp hk];omega
 sub:=fun w hw=>hw
 cl:=fun k hk hw=>absurd hk hw
 wl:=by simp
theorem JInv.all {m:Int} {rs:List Road} {ks:List Int} (h:JInv m rs ks []) (hm:1<=m) (j:M8 m rs):(ks.length:Int)=m:=by
 have up:=cH (by omega) h.nd h.rng;have:∀ v,0<=v->v<m->v∈ks:=j (fun v=>v∈ks) h.zero fun r hr=>by
   constructor
   . intro ha;exact h.cl r.a ha (by simp) r.b (qY.mpr ⟨r,hr,.inl ⟨rfl,rfl⟩⟩)
   . intro hb;exact h.cl r.b hb (by simp) r.a (qY.mpr ⟨r,hr,.inr ⟨rfl,rfl⟩⟩)
 have:=Qh (by omega) this;omega
theorem Pi {m:Int} {rs:List Road} (h:∀ r∈rs,RoadOk m r) {p e:Int} (he:e∈cw rs p):0<=e/\e<m:=by
 obtain ⟨r,hr,z⟩:=qY.mp he;have k:=h r hr;rcases z with ⟨_,rfl⟩|⟨_,rfl⟩
 . exact ⟨k.b0,k.b1⟩
 . exact ⟨k.a0,k.a1⟩
structure Row where
 k:Int
 un:Int
 t:Int
 u:Int
 sw:Int
 sp:Int
structure RowOk (r:Row):Prop where
 u0:0<=r.un
 u1:r.un<r.k
 t0:2<=r.t
 t1:r.t<=1000000
 v0:2<=r.u
 v1:r.u<=1000000
 s0:0<=r.sp
 s1:r.sp<r.k
structure Rows (n:Nat) (rows:List Row):Prop where
 len:rows.length=n
 ok:∀ (i:Nat) (r:Row),rows[i]?=some r->r.k=(i:Int)+1/\RowOk r
structure Labels (n:Nat) (ls:List Int):Prop where
 len:ls.length=n
 nd:ls.Nodup
 all:∀ v:Int,0<=v->v<n->v∈ls
 rng:∀ v∈ls,0<=v/\v<n
theorem Labels.nil:Labels 0 []:=⟨rfl,by simp,fun v h0 h1=>(by omega),fun v h=>(by cases h)⟩
theorem qy {α:Type} {l:List α} {k:Nat} {x y:α}:y∈l.take k++x::l.drop k↔y=x\/y∈l:=by
 rw [List.mem_append,List.mem_cons]
 constructor
 . rintro (h|h|h)
   . exact .inr (List.mem_of_mem_take h)
   . exact .inl h
   . exact .inr (List.mem_of_mem_drop h)
 . rintro (h|h)
   . exact .inr (.inl h)
   . rw [<- List.take_append_drop k l] at h;rcases List.mem_append.mp h with z|z
     . exact .inl z
     . exact .inr (.inr z)
theorem Labels.put {n:Nat} {ls:List Int} (h:Labels n ls) (k:Nat) (hk:k<=n):Labels (n+1) (ls.take k++(n:Int)::ls.drop k) where
 len:=by
   rw [List.length_append,List.length_cons,List.length_take,List.length_drop,h.len];omega
 nd:=by
   have p:(ls.take k++(n:Int)::ls.drop k).Perm ((n:Int)::ls):=by
     refine List.perm_middle.trans ?_;rw [List.take_append_drop]
   refine p.nodup_iff.mpr (List.nodup_cons.mpr ⟨fun z=>?_,h.nd⟩);have:=(h.rng _ z).2;omega
 all:=fun v h0 h1=>by
   rw [qy];by_cases e:v=n
   . exact .inl e
   . exact .inr (h.all v h0 (by omega))
 rng:=fun v hv=>by
   rcases qy.mp hv with z|z
   . omega
   . have:=h.rng v z;omega
def ja (ls:List Int) (r:Row):Road:=if r.sw=1 then ⟨ls.getD r.un.toNat 0,ls.getD r.k.toNat 0,r.t,r.u⟩ else ⟨ls.getD r.k.toNat 0,ls.getD r.un.toNat 0,r.t,r.u⟩
structure Put (ls:List Int) (rows:List Row) (rs:List Road):Prop where
 len:rs.length=rows.length
 of:∀ r∈rs,∃ w∈rows,r=ja ls w
 to:∀ w∈rows,ja ls w∈rs
theorem Put.nil (ls:List Int):Put ls [] []:=⟨rfl,fun r h=>(by cases h),fun r h=>(by cases h)⟩
theorem Put.step {ls:List Int} {rows:List Row} {rs:List Road} (h:Put ls rows rs) (w:Row) (k:Nat):Put ls (rows++[w]) (rs.take k++ja ls w::rs.drop k) where
 len:=by
   rw [List.length_append,List.length_cons,List.length_take,List.length_drop,List.length_append,h.len];simp;omega
 of:=fun r hr=>by
   rcases qy.mp hr with z|z
   . exact ⟨w,by simp,z⟩
   . obtain ⟨w',hw,e⟩:=h.of r z;exact ⟨w',List.mem_append_left _ hw,e⟩
 to:=fun w' hw=>by
   rw [qy];rcases List.mem_append.mp hw with z|z
   . exact .inr (h.to w' z)
   . exact .inl (by rw [List.mem_singleton.mp z])
theorem qE {ls:List Int} {n:Nat} (h:Labels n ls) {i:Nat} (hi:i<n):ls[i]?=some (ls.getD i 0):=by
 have:i<ls.length:=by rw [h.len];exact hi
 simp [List.getD,List.getElem?_eq_getElem this]
theorem FD {ls:List Int} {n:Nat} (h:Labels n ls) {i:Nat} (hi:i<n):ls.getD i 0∈ls:=List.mem_of_getElem? (qE h hi)
theorem Pt {ls:List Int} {n:Nat} (h:Labels n ls) {i j:Nat} (hi:i<n) (hj:j<n) (e:ls.getD i 0=ls.getD j 0):i=j:=by
 have h1:i<ls.length:=by rw [h.len];exact hi
 have h2:j<ls.length:=by rw [h.len];exact hj
 have e1:=qE h hi;have e2:=qE h hj;rw [e] at e1;have e3:ls[i]'h1=ls[j]'h2:=by
   rw [List.getElem?_eq_getElem h1] at e1;rw [List.getElem?_eq_getElem h2] at e2;exact Option.some.inj (e1.trans e2.symm)
 have nd:=List.pairwise_iff_getElem.mp h.nd;rcases Nat.lt_trichotomy i j with z|z|z
 . exact absurd e3 (nd i j h1 h2 z)
 . exact z
 . exact absurd e3.symm (nd j i h2 h1 z)
theorem Sq {n:Nat} {ls:List Int} {rows:List Row} {rs:List Road} (h1:1<=n) (h24:n<=24) (L:Labels n ls) (W:Rows (n - 1) rows) (P:Put ls rows rs):Good n rs where
 m1:=by omega
 m24:=by omega
 len:=by rw [P.len,W.len];omega
 ok:=fun r hr=>by
   obtain ⟨w,hw,rfl⟩:=P.of r hr;obtain ⟨i,hi⟩:=List.getElem?_of_mem hw;obtain ⟨ek,ok⟩:=W.ok i w hi;have hil:i<rows.length:=(List.getElem?_eq_some_iff.mp hi).1;rw [W.len] at hil;have hk:w.k.toNat<n:=by omega
   have hu:w.un.toNat<n:=by have:=ok.u0;have:=ok.u1;omega
   have r1:=L.rng _ (FD L hk);have r2:=L.rng _ (FD L hu);have ne:ls.getD w.k.toNat 0≠ls.getD w.un.toNat 0:=fun e=>by
     have:=Pt L hk hu e;have:=ok.u0;have:=ok.u1;omega
   unfold ja;by_cases c:w.sw=1
   . rw [if_pos c];exact ⟨r2.1,r2.2,r1.1,r1.2,ne.symm,ok.t0,ok.t1,ok.v0,ok.v1⟩
   . rw [if_neg c];exact ⟨r1.1,r1.2,r2.1,r2.2,ne,ok.t0,ok.t1,ok.v0,ok.v1⟩
 jn:=by
   intro S s0 hS;have key:∀ i:Nat,i<n->(S (ls.getD i 0)↔S (ls.getD 0 0)):=by
     intro i
     induction i using Nat.strongRecOn with
     | ind i ih =>
       intro hi;by_cases z:i=0
       . rw [z]
       . have hil:i - 1<rows.length:=(by rw [W.len];omega);obtain ⟨ek,ok⟩:=W.ok (i - 1) rows[i - 1] (List.getElem?_eq_getElem hil);have hm:=P.to rows[i - 1] (List.getElem_mem hil);have hr:=hS _ hm;have hk:(rows[i - 1]).k.toNat=i:=(by omega);have hu:(rows[i - 1]).un.toNat<i:=(by have:=ok.u0;have:=ok.u1;omega);have hh:=ih _ hu (by omega);unfold ja at hr;rw [hk] at hr;by_cases c:(rows[i - 1]).sw=1
         . rw [if_pos c] at hr;exact hr.symm.trans hh
         . rw [if_neg c] at hr;exact hr.trans hh
   have at_:∀ v,0<=v->v<(n:Int)->∃ i,i<n/\ls.getD i 0=v:=fun v h0 h1=>by
     obtain ⟨i,hi⟩:=List.getElem?_of_mem (L.all v h0 h1);have hil:i<n:=(by have:=(List.getElem?_eq_some_iff.mp hi).1;rw [L.len] at this;exact this);refine ⟨i,hil,?_⟩;have:=qE L hil;rw [hi] at this;exact (Option.some.inj this).symm
   intro v h0 hv;obtain ⟨i,hi,rfl⟩:=at_ v h0 hv;obtain ⟨j,hj,ej⟩:=at_ 0 (by omega) (by omega);refine (key i hi).mpr ((key j hj).mp ?_);rw [ej];exact s0
end Pb
namespace Pb
def Adj (rs:List Road) (a b:Int):Prop:=∃ x∈rs,(x.a=a/\x.b=b)\/(x.b=a/\x.a=b)
theorem Adj.symm {rs:List Road} {a b:Int} (h:Adj rs a b):Adj rs b a:=by
 obtain ⟨x,hx,h⟩:=h;rcases h with ⟨h1,h2⟩|⟨h1,h2⟩
 . exact ⟨x,hx,.inr ⟨h2,h1⟩⟩
 . exact ⟨x,hx,.inl ⟨h2,h1⟩⟩
theorem Ao {rs:List Road} {a b:Int}:b∈cw rs a↔Adj rs a b:=qY
theorem Good.adj {m:Int} {rs:List Road} (g:Good m rs) {a b:Int} (h:Adj rs a b):(0<=a/\a<m)/\(0<=b/\b<m)/\a≠b:=by
 obtain ⟨x,hx,h⟩:=h;have k:=g.ok x hx;rcases h with ⟨h1,h2⟩|⟨h1,h2⟩
 . subst h1 h2;exact ⟨⟨k.a0,k.a1⟩,⟨k.b0,k.b1⟩,k.ne⟩
 . subst h1 h2;exact ⟨⟨k.b0,k.b1⟩,⟨k.a0,k.a1⟩,k.ne.symm⟩
theorem Good.from {m:Int} {rs:List Road} (g:Good m rs) {r:Int} (h0:0<=r) (h1:r<m) (S:Int->Prop) (sr:S r) (hS:∀ x∈rs,(S x.a↔S x.b)):∀ v,0<=v->v<m->S v:=by
 have key:∀ v,0<=v->v<m->(S v↔S 0):=g.jn (fun v=>S v↔S 0) Iff.rfl fun x hx=>by
   have:=hS x hx;exact ⟨fun h=>this.symm.trans h,fun h=>this.trans h⟩
 intro v a b;exact (key v a b).mpr ((key r h0 h1).mp sr)
inductive Dist (rs:List Road) (r:Int):Nat->Int->Prop
 | zero:Dist rs r 0 r
 | step {n:Nat} {u v:Int}:Dist rs r n u->Adj rs u v->Dist rs r (n+1) v
theorem UK {P:Nat->Prop}:∀ n,P n->∃ k,P k/\∀ j,j<k->¬ P j:=by
 intro n
 induction n using Nat.strongRecOn with
 | ind n ih =>
   intro h;by_cases z:∃ j,j<n/\P j
   . obtain ⟨j,hj,hp⟩:=z;exact ih j hj hp
   . exact ⟨n,h,fun j hj hp=>z ⟨j,hj,hp⟩⟩
structure Rooted (m:Int) (rs:List Road) (r:Int) (par:Int->Int) (dep:Int->Nat):Prop where
 root:dep r=0
 up:∀ v,0<=v->v<m->v≠r->(0<=par v/\par v<m)/\Adj rs v (par v)/\dep (par v)+1=dep v
 road:∀ x∈rs,(x.a≠r/\par x.a=x.b)\/(x.b≠r/\par x.b=x.a)
 one:(rs.map fun x=>if x.a≠r/\par x.a=x.b then x.a else x.b).Nodup
theorem R5 {n:Nat} {l:List Nat} (hn:l.Nodup) (hl:l.length=n) (hb:∀ x∈l,x<n):∀ i,i<n->i∈l:=by
 intro i hi;by_cases z:i∈l
 . exact z
 . have:=lR (l:=i::l) (l':=List.range n) (List.nodup_cons.mpr ⟨z,hn⟩) fun x hx=>by
     rcases List.mem_cons.mp hx with rfl|hx
     . exact List.mem_range.mpr hi
     . exact List.mem_range.mpr (hb x hx)
   rw [List.length_cons,List.length_range] at this;omega
theorem GF {m:Int} {rs:List Road} (g:Good m rs) {r:Int} (h0:0<=r) (h1:r<m):∃ par dep,Rooted m rs r par dep:=by
 classical
 have reach:∀ v,0<=v->v<m->∃ n,Dist rs r n v:=g.from h0 h1 (fun v=>∃ n,Dist rs r n v) ⟨0,.zero⟩ fun x hx=>by
   constructor
   . rintro ⟨n,d⟩;exact ⟨n+1,d.step ⟨x,hx,.inl ⟨rfl,rfl⟩⟩⟩
   . rintro ⟨n,d⟩;exact ⟨n+1,d.step ⟨x,hx,.inr ⟨rfl,rfl⟩⟩⟩
 have hd:∀ v,∃ k,(0<=v/\v<m)->Dist rs r k v/\∀ j,j<k->¬ Dist rs r j v:=fun v=>by
   by_cases z:0<=v/\v<m
   . obtain ⟨n,d⟩:=reach v z.1 z.2;obtain ⟨k,h⟩:=UK (P:=fun k=>Dist rs r k v) n d;exact ⟨k,fun _=>h⟩
   . exact ⟨0,fun h=>absurd h z⟩
 let dep:Int->Nat:=fun v=>(hd v).choose
 have dspec:∀ v,0<=v->v<m->Dist rs r (dep v) v/\∀ j,j<dep v->¬ Dist rs r j v:=fun v a b=>(hd v).choose_spec ⟨a,b⟩;have dr:dep r=0:=by
   have:=(dspec r h0 h1).2 0;by_cases z:dep r=0
   . exact z
   . exact absurd Dist.zero (this (by omega))
 have hp:∀ v,∃ u,(0<=v/\v<m/\v≠r)->Adj rs v u/\dep u+1=dep v:=fun v=>by
   by_cases z:0<=v/\v<m/\v≠r
   . obtain ⟨a,b,c⟩:=z;obtain ⟨d,dm⟩:=dspec v a b;generalize hk:dep v=k at d dm;cases d with
     | zero=>exact absurd rfl c
     | @step n u _ d e =>
       refine ⟨u,fun _=>⟨e.symm,?_⟩⟩;obtain ⟨⟨u0,u1⟩,_⟩:=g.adj e;have l1:dep u<=n:=by
         by_cases w:dep u<=n
         . exact w
         . exact absurd d ((dspec u u0 u1).2 n (by omega))
       have l2:¬ dep u<n:=fun w=>dm (dep u+1) (by omega) ((dspec u u0 u1).1.step e);omega
   . exact ⟨0,fun h=>absurd h z⟩
 let par:Int->Int:=fun v=>(hp v).choose
 have pspec:∀ v,0<=v->v<m->v≠r->Adj rs v (par v)/\dep (par v)+1=dep v:=fun v a b c=>(hp v).choose_spec ⟨a,b,c⟩;have hi:∀ v,∃ i:Nat,(0<=v/\v<m/\v≠r)->∃ x,rs[i]?=some x/\((x.a=v/\x.b=par v)\/(x.b=v/\x.a=par v)):=fun v=>by
   by_cases z:0<=v/\v<m/\v≠r
   . obtain ⟨x,hx,h⟩:=(pspec v z.1 z.2.1 z.2.2).1;obtain ⟨i,e⟩:=List.getElem?_of_mem hx;exact ⟨i,fun _=>⟨x,e,h⟩⟩
   . exact ⟨0,fun h=>absurd h z⟩
 let ix:Int->Nat:=fun v=>(hi v).choose
 have ispec:∀ v,0<=v->v<m->v≠r->∃ x,rs[ix v]?=some x/\((x.a=v/\x.b=par v)\/(x.b=v/\x.a=par v)):=fun v a b c=>(hi v).choose_spec ⟨a,b,c⟩;have inj:∀ v u,0<=v->v<m->v≠r->0<=u->u<m->u≠r->ix v=ix u->v=u:=by
   intro v u a b c a' b' c' e;obtain ⟨x,hx,h⟩:=ispec v a b c;obtain ⟨y,hy,h'⟩:=ispec u a' b' c';rw [e,hy] at hx;cases hx;have d1:=(pspec v a b c).2;have d2:=(pspec u a' b' c').2;rcases h with ⟨p,q⟩|⟨p,q⟩ <;> rcases h' with ⟨p',q'⟩|⟨p',q'⟩
   . exact p.symm.trans p'
   . exfalso
     have e1:v=par u:=p.symm.trans q';have e2:u=par v:=p'.symm.trans q;rw [<- e1] at d2;rw [<- e2] at d1;omega
   . exfalso
     have e1:v=par u:=p.symm.trans q';have e2:u=par v:=p'.symm.trans q;rw [<- e1] at d2;rw [<- e2] at d1;omega
   . exact p.symm.trans p'
 let vs:List Int:=(below m.toNat).filter fun v=>decide (v≠r)
 have mv:∀ v,v∈vs↔(0<=v/\v<m/\v≠r):=fun v=>by
   rw [List.mem_filter,gB,decide_eq_true_eq]
   constructor
   . rintro ⟨⟨a,b⟩,c⟩;exact ⟨a,by omega,c⟩
   . rintro ⟨a,b,c⟩;exact ⟨⟨a,by omega⟩,c⟩
 have nv:vs.Nodup:=(kQ _).filter _;have lv:vs.length=rs.length:=by
   have e1:(r::vs).length<=(below m.toNat).length:=lR (List.nodup_cons.mpr ⟨fun h=>((mv r).mp h).2.2 rfl,nv⟩) fun x hx=>by
     rcases List.mem_cons.mp hx with rfl|hx
     . exact gB.mpr ⟨h0,by omega⟩
     . have:=(mv x).mp hx;exact gB.mpr ⟨this.1,by omega⟩
   have e2:(below m.toNat).length<=(r::vs).length:=lR (kQ _) fun x hx=>by
     have:=gB.mp hx;by_cases z:x=r
     . rw [z];exact List.mem_cons_self
     . exact List.mem_cons_of_mem _ ((mv x).mpr ⟨this.1,by omega,z⟩)
   rw [aY,List.length_cons] at e1 e2;have:=g.len;have:=g.m1;omega
 have il:(vs.map ix).Nodup:=by
   have:∀ (l:List Int),l.Nodup->(∀ v∈l,0<=v/\v<m/\v≠r)->(l.map ix).Nodup:=by
     intro l
     induction l with
     | nil=>intro _ _;simp
     | cons v l ih =>
       intro hn hm;obtain ⟨n1,n2⟩:=List.nodup_cons.mp hn;rw [List.map_cons];refine List.nodup_cons.mpr ⟨fun z=>?_,ih n2 fun u hu=>hm u (List.mem_cons_of_mem _ hu)⟩;obtain ⟨u,hu,e⟩:=List.mem_map.mp z;obtain ⟨a,b,c⟩:=hm v List.mem_cons_self;obtain ⟨a',b',c'⟩:=hm u (List.mem_cons_of_mem _ hu);exact n1 (inj u v a' b' c' a b c e ▸ hu)
   exact this vs nv fun v hv=>(mv v).mp hv
 have ib:∀ i∈vs.map ix,i<rs.length:=fun i hi'=>by
   obtain ⟨v,hv,rfl⟩:=List.mem_map.mp hi';obtain ⟨a,b,c⟩:=(mv v).mp hv;obtain ⟨x,hx,_⟩:=ispec v a b c;exact (List.getElem?_eq_some_iff.mp hx).1
 have all:=R5 il (by rw [List.length_map,lv]) ib;have back:∀ i x,rs[i]?=some x->∃ v,(0<=v/\v<m/\v≠r)/\ix v=i/\((x.a=v/\x.b=par v)\/(x.b=v/\x.a=par v)):=fun i x e=>by
   obtain ⟨v,hv,rfl⟩:=List.mem_map.mp (all i (List.getElem?_eq_some_iff.mp e).1);obtain ⟨a,b,c⟩:=(mv v).mp hv;obtain ⟨y,hy,h⟩:=ispec v a b c;rw [e] at hy;cases hy;exact ⟨v,⟨a,b,c⟩,rfl,h⟩
 have noback:∀ v,0<=v->v<m->v≠r->par v≠r->par (par v)≠v:=fun v a b c c' z=>by
   have d1:=pspec v a b c;obtain ⟨_,⟨a',b'⟩,_⟩:=g.adj d1.1;have d2:=pspec (par v) a' b' c';rw [z] at d2;omega
 have kid:∀ i x,rs[i]?=some x->∃ v,(0<=v/\v<m/\v≠r)/\ix v=i/\(if x.a≠r/\par x.a=x.b then x.a else x.b)=v:=fun i x e=>by
   obtain ⟨v,⟨a,b,c⟩,hv,h⟩:=back i x e;refine ⟨v,⟨a,b,c⟩,hv,?_⟩;rcases h with ⟨p,q⟩|⟨p,q⟩
   . rw [if_pos ⟨by rw [p];exact c,by rw [p];exact q.symm⟩];exact p
   . rw [if_neg]
     . exact p
     . rintro ⟨z1,z2⟩;rw [q] at z1 z2;exact noback v a b c z1 (z2.trans p)
 refine ⟨par,dep,dr,fun v a b c=>?_,fun x hx=>?_,?_⟩
 . obtain ⟨p,q⟩:=pspec v a b c;obtain ⟨_,w,_⟩:=g.adj p;exact ⟨w,p,q⟩
 . obtain ⟨i,e⟩:=List.getElem?_of_mem hx;obtain ⟨v,⟨a,b,c⟩,_,h⟩:=back i x e;rcases h with ⟨p,q⟩|⟨p,q⟩
   . exact .inl ⟨by rw [p];exact c,by rw [p];exact q.symm⟩
   . exact .inr ⟨by rw [p];exact c,by rw [p];exact q.symm⟩
 . refine List.pairwise_iff_getElem.mpr fun i j hi' hj' lt=>?_;rw [List.length_map] at hi' hj';rw [List.getElem_map,List.getElem_map];intro z;obtain ⟨v,_,e1,k1⟩:=kid i rs[i] (List.getElem?_eq_getElem hi');obtain ⟨u,_,e2,k2⟩:=kid j rs[j] (List.getElem?_eq_getElem hj');rw [k1,k2] at z;rw [z] at e1;omega
theorem LG {m:Int} {rs:List Road} (g:Good m rs) {p:Int} (h0:0<=p) (h1:p<m):(cw rs p).Nodup:=by
 obtain ⟨par,dep,R⟩:=GF g h0 h1;have one:=R.one;have ok:=g.ok;have road:=R.road;clear R g
 induction rs with
 | nil=>simp [cw]
 | cons x l ih =>
   have ox:=ok x List.mem_cons_self;have ol:∀ y∈l,RoadOk m y:=fun y hy=>ok y (List.mem_cons_of_mem _ hy);rw [List.map_cons] at one;obtain ⟨n1,n2⟩:=List.nodup_cons.mp one;have il:=ih n2 ol fun y hy=>road y (List.mem_cons_of_mem _ hy);have e:cw (x::l) p=sG p x++cw l p:=by unfold cw;rw [List.flatMap_cons]
   rw [e];have kid:∀ y,RoadOk m y->((y.a≠p/\par y.a=y.b)\/(y.b≠p/\par y.b=y.a))->(y.a=p->(if y.a≠p/\par y.a=y.b then y.a else y.b)=y.b)/\(y.b=p->(if y.a≠p/\par y.a=y.b then y.a else y.b)=y.a):=fun y oy hy=>by
     constructor
     . intro z;rw [if_neg (fun w=>w.1 z)]
     . intro z;rcases hy with hy|hy
       . rw [if_pos hy]
       . exact absurd z hy.1
   have kx:=kid x ox (road x List.mem_cons_self);have inl:∀ e∈cw l p,e∈l.map fun y=>if y.a≠p/\par y.a=y.b then y.a else y.b:=fun e he=>by
     obtain ⟨y,hy,h⟩:=qY.mp he;have ky:=kid y (ol y hy) (road y (List.mem_cons_of_mem _ hy));refine List.mem_map.mpr ⟨y,hy,?_⟩;rcases h with ⟨p1,q1⟩|⟨p1,q1⟩
     . rw [ky.1 p1];exact q1
     . rw [ky.2 p1];exact q1
   unfold sG;by_cases c:x.a=p
   . have d:¬ x.b=p:=fun z=>ox.ne (c.trans z.symm);rw [if_pos c,if_neg d,List.append_nil];refine List.nodup_cons.mpr ⟨fun z=>n1 ?_,il⟩;rw [kx.1 c];exact inl _ z
   . rw [if_neg c,List.nil_append];by_cases d:x.b=p
     . rw [if_pos d];refine List.nodup_cons.mpr ⟨fun z=>n1 ?_,il⟩;rw [kx.2 d];exact inl _ z
     . rw [if_neg d];exact il
def fU (m:Int) (rs:List Road) (p:Int):List Int:=(below m.toNat).filter fun q=>decide (q∈cw rs p)
theorem Ej:∀ {l l':List Int},l.Perm l'->l.Pairwise (·<=·)->l'.Pairwise (·<=·)->l=l'
 | [],l',p,_,_=>(List.Perm.nil_eq p)
 | a::l,l',p,h,h'=>by
   cases l' with
   | nil=>exact absurd p.symm.nil_eq (by simp)
   | cons b r =>
     obtain ⟨h1,h2⟩:=List.pairwise_cons.mp h;obtain ⟨h1',h2'⟩:=List.pairwise_cons.mp h';have e:a=b:=by
       have ma:a∈b::r:=p.subset List.mem_cons_self;have mb:b∈a::l:=p.symm.subset List.mem_cons_self;rcases List.mem_cons.mp ma with z|z
       . exact z
       . rcases List.mem_cons.mp mb with w|w
         . exact w.symm
         . have:=h1 b w;have:=h1' a z;omega
     subst e;rw [Ej (List.Perm.cons_inv p) h2 h2']
theorem Gm (n:Nat):(below n).Pairwise (·<=·):=by
 unfold below;refine List.Pairwise.map _ (fun a b (h:a<b)=>?_) List.pairwise_lt_range;omega
theorem IG (m:Int) (rs:List Road) (p:Int):(fU m rs p).Pairwise (·<=·):=(Gm _).filter _
theorem Bw (m:Int) (rs:List Road) (p:Int):(fU m rs p).Nodup:=(kQ _).filter _
theorem GQ {m:Int} {rs:List Road} (g:Good m rs) {p q:Int}:q∈fU m rs p↔Adj rs p q:=by
 unfold fU;rw [List.mem_filter,decide_eq_true_eq,Ao,gB]
 constructor
 . exact fun h=>h.2
 . intro h;obtain ⟨_,⟨a,b⟩,_⟩:=g.adj h;exact ⟨⟨a,by omega⟩,h⟩
theorem lm:∀ {l l':List Int},l.Nodup->l'.Nodup->(∀ x,x∈l↔x∈l')->l.Perm l'
 | [],l',_,_,h=>by
   cases l' with
   | nil=>exact .nil
   | cons b r=>exact absurd ((h b).mpr List.mem_cons_self) (by simp)
 | a::l,l',n,n',h=>by
   obtain ⟨n1,n2⟩:=List.nodup_cons.mp n;have ma:a∈l':=(h a).mp List.mem_cons_self;refine List.Perm.trans (List.Perm.cons a ?_) (List.perm_cons_erase ma).symm;refine lm n2 (n'.erase a) fun x=>?_
   constructor
   . intro hx;have ne:x≠a:=fun z=>n1 (z ▸ hx);exact (List.mem_erase_of_ne ne).mpr ((h x).mp (List.mem_cons_of_mem _ hx))
   . intro hx;have:x≠a:=fun z=>by
       subst z;exact (List.Nodup.not_mem_erase n') hx
     rcases List.mem_cons.mp ((h x).mpr (List.mem_of_mem_erase hx)) with z|z
     . exact absurd z this
     . exact z
theorem SK {m:Int} {rs:List Road} (g:Good m rs) {p:Int} (h0:0<=p) (h1:p<m) {zs:List Int} (hp:zs.Perm (cw rs p)) (hs:zs.Pairwise (·<=·)):zs=fU m rs p:=by
 refine Ej (hp.trans (lm (LG g h0 h1) (Bw m rs p) fun x=>?_)) hs (IG m rs p);rw [GQ g,Ao]
def eF (a b:Int) (x:Road):Option Int:=if x.a=a/\x.b=b then some x.t else if x.a=b/\x.b=a then some x.u else none
def aZ (rs:List Road) (a b:Int):Option Int:=rs.findSome? (eF a b)
theorem FK {rs:List Road} {a b:Int}:(aZ rs a b).isSome=true↔Adj rs a b:=by
 unfold aZ;rw [List.findSome?_isSome_iff]
 constructor
 . rintro ⟨x,hx,h⟩;unfold eF at h;by_cases c:x.a=a/\x.b=b
   . exact ⟨x,hx,.inl c⟩
   . rw [if_neg c] at h;by_cases d:x.a=b/\x.b=a
     . exact ⟨x,hx,.inr ⟨d.2,d.1⟩⟩
     . rw [if_neg d] at h;cases h
 . rintro ⟨x,hx,h⟩;refine ⟨x,hx,?_⟩;unfold eF;rcases h with h|h
   . rw [if_pos h];rfl
   . by_cases c:x.a=a/\x.b=b
     . rw [if_pos c];rfl
     . rw [if_neg c,if_pos ⟨h.2,h.1⟩];rfl
def qA (x:Road) (a b:Int):Prop:=(x.a=a/\x.b=b)\/(x.b=a/\x.a=b)
theorem D6 {m:Int} {rs:List Road} (g:Good m rs) {a b:Int} {i j:Nat} {x y:Road} (hi:rs[i]?=some x) (hj:rs[j]?=some y) (jx:qA x a b) (jy:qA y a b):i=j:=by
 obtain ⟨⟨a0,a1⟩,_,_⟩:=g.adj (show Adj rs a b from ⟨x,List.mem_of_getElem? hi,jx⟩);obtain ⟨par,dep,R⟩:=GF g a0 a1;have kid:∀ z∈rs,qA z a b->(if z.a≠a/\par z.a=z.b then z.a else z.b)=b:=fun z hz jz=>by
   rcases jz with ⟨p,q⟩|⟨p,q⟩
   . rw [if_neg (fun w=>w.1 p)];exact q
   . rcases R.road z hz with w|w
     . rw [if_pos w];exact q
     . exact absurd p w.1
 have li:=(List.getElem?_eq_some_iff.mp hi);have lj:=(List.getElem?_eq_some_iff.mp hj);obtain ⟨li,ei⟩:=li;obtain ⟨lj,ej⟩:=lj;have nd:=List.pairwise_iff_getElem.mp R.one;have vi:(rs.map fun z=>if z.a≠a/\par z.a=z.b then z.a else z.b)[i]'(by rw [List.length_map];exact li)=b:=by
   rw [List.getElem_map];exact kid _ (List.getElem_mem li) (ei ▸ jx)
 have vj:(rs.map fun z=>if z.a≠a/\par z.a=z.b then z.a else z.b)[j]'(by rw [List.length_map];exact lj)=b:=by
   rw [List.getElem_map];exact kid _ (List.getElem_mem lj) (ej ▸ jy)
 rcases Nat.lt_trichotomy i j with z|z|z
 . exact absurd (vi.trans vj.symm) (nd i j _ _ z)
 . exact z
 . exact absurd (vj.trans vi.symm) (nd j i _ _ z)
theorem K4 {a b:Int} {x:Road} (h:¬ qA x a b):eF a b x=none:=by
 unfold eF;rw [if_neg (fun z=>h (.inl z)),if_neg (fun z=>h (.inr ⟨z.2,z.1⟩))]
theorem Eh {m:Int} {rs:List Road} (g:Good m rs) {a b:Int} {i:Nat} {x:Road} (hi:rs[i]?=some x) (j:qA x a b):aZ rs a b=eF a b x:=by
 have lt:=(List.getElem?_eq_some_iff.mp hi);obtain ⟨lt,ex⟩:=lt;have e:rs=rs.take i++x::rs.drop (i+1):=by rw [<- ex,List.getElem_cons_drop,List.take_append_drop]
 have pre:aZ (rs.take i) a b=none:=by
   unfold aZ;rw [List.findSome?_eq_none_iff];intro y hy;refine K4 fun jy=>?_;obtain ⟨k,hk⟩:=List.getElem?_of_mem hy;have lk:=(List.getElem?_eq_some_iff.mp hk).1;rw [List.length_take] at lk;rw [List.getElem?_take_of_lt (by omega)] at hk;have:=D6 g hk hi jy j;omega
 have hx:(eF a b x).isSome=true:=by
   unfold eF;rcases j with z|z
   . rw [if_pos z];rfl
   . by_cases c:x.a=a/\x.b=b
     . rw [if_pos c];rfl
     . rw [if_neg c,if_pos ⟨z.2,z.1⟩];rfl
 obtain ⟨v,hv⟩:=Option.isSome_iff_exists.mp hx;have:aZ (rs.take i++x::rs.drop (i+1)) a b=eF a b x:=by
   unfold aZ at pre ⊢;rw [List.findSome?_append,pre,List.findSome?_cons,hv]
   rfl
 rw [<- e] at this;exact this
theorem Of {rs:List Road} {a b:Int} (h:¬ Adj rs a b):aZ rs a b=none:=by
 cases q:aZ rs a b with
 | none=>rfl
 | some v=>exact absurd (FK.mp (by rw [q];rfl)) h
theorem QF {x:Road} (h:x.a≠x.b):eF x.a x.b x=some x.t:=by unfold eF;rw [if_pos ⟨rfl,rfl⟩]
theorem QQ {x:Road} (h:x.a≠x.b):eF x.b x.a x=some x.u:=by unfold eF;rw [if_neg (fun z=>h z.1),if_pos ⟨rfl,rfl⟩]
theorem MS {m:Int} {rs:List Road} (p:Int):fU m rs p=(below m.toNat).filter fun q=>(aZ rs p q).isSome:=by
 unfold fU
 congr 1
 funext q
 rw [Bool.eq_iff_iff,decide_eq_true_eq,FK,Ao]
end Pb
namespace L2
open PySem PySem.Spec PyProof.Rows
def aQ (CX:CXT):Prop:=∀ outer H s e s',¬ CX outer H s E0 e s'
theorem aL {CX:CXT} (q:aQ CX) {X:Cx}:uO CX X E0:=fun _ _ _ _ _ _ _ h=>(q _ _ _ _ _ h).elim
structure Df (K:PySem.W.Frag) (mg:Str->Option Value) (x:Str) (st:Stmt) (ps:List Str) (f:Addr) (fd:FuncData):Prop where
 F:Fun K x x st f fd
 m:mg x=some (.ref f)
 b:Binds K fd ps []
section
variable {P:Program} {w:World} {K:PySem.W.Frag} {mg:Str->Option Value} {base:Heap} {CX:CXT}
theorem Fun.okC {x qual:Str} {st:Stmt} {f:Addr} {fd:FuncData} {N ps:List Str} {k:Nat} {sp:Sp} (F:Fun K x qual st f fd) (S:FnScope N ps (aa st)) (len:∀ vs H Q E,sp vs H Q E->vs.length=ps.length)
   (hbody:∀ (cdv:Value) (A:Around) (outer:List Env) (s:Shared) (H:Hp) (vs:List V) (Q:VK) (E:XK),Room k (A.deeper (envOfC qual (aa st) s.heap.objs.size f cdv))->sp vs H Q E ->
     ∃ t,PSs (pE CX P w K mg base N qual (aa st) f cdv A outer s H E).nox (az st) t/\t { nx:=fun _ H'=>Q .non H',rt:=Q } (start N vs) H):FnOk P w K mg base CX (k+1) f fd ps sp:=by
 obtain ⟨oc,od,kV,doc,pm,an,cdv,ct,osl,rfl,lk,hcd⟩:=F.ex;refine RT lk hcd S len fun A outer s H vs Q E hr hsp=>?_;obtain ⟨t,h,q⟩:=hbody cdv A outer s H vs Q E hr hsp;exact ⟨t,h.nox,q⟩
end
structure NmL (sc:Scope) (x:Str):Prop where
 l:sc.names.lookup x=some .local
 d:(x == ("__debug__":Str))=false
 c:(x == ("__classdict__":Str))=false
structure NmC (sc:Scope) (x:Str):Prop where
 l:sc.names.lookup x=some .cell
 d:(x == ("__debug__":Str))=false
 c:(x == ("__classdict__":Str))=false
structure NmG (sc:Scope) (x:Str):Prop where
 g:sc.names.lookup x=some .globalImplicit
 d:(x == ("__debug__":Str))=false
 n:x≠"__name__"
theorem us1 {us:List Value} (h:us.length=1):∃ a0,us=[a0]:=List.length_eq_one_iff.mp h
theorem us2 {us:List Value} (h:us.length=2):∃ a0 a1,us=[a0,a1]:=by
 cases us with
 | nil=>cases h
 | cons a0 t =>
   obtain ⟨a1,e⟩:=us1 (Nat.succ.inj h);subst e;exact ⟨a0,a1,rfl⟩
theorem us3 {us:List Value} (h:us.length=3):∃ a0 a1 a2,us=[a0,a1,a2]:=by
 cases us with
 | nil=>cases h
 | cons a0 t =>
   obtain ⟨a1,a2,e⟩:=us2 (Nat.succ.inj h);subst e;exact ⟨a0,a1,a2,rfl⟩
theorem us4 {us:List Value} (h:us.length=4):∃ a0 a1 a2 a3,us=[a0,a1,a2,a3]:=by
 cases us with
 | nil=>cases h
 | cons a0 t =>
   obtain ⟨a1,a2,a3,e⟩:=us3 (Nat.succ.inj h);subst e;exact ⟨a0,a1,a2,a3,rfl⟩
theorem us5 {us:List Value} (h:us.length=5):∃ a0 a1 a2 a3 a4,us=[a0,a1,a2,a3,a4]:=by
 cases us with
 | nil=>cases h
 | cons a0 t =>
   obtain ⟨a1,a2,a3,a4,e⟩:=us4 (Nat.succ.inj h);subst e;exact ⟨a0,a1,a2,a3,a4,rfl⟩
def nmL (sc:Scope) (x:Str):Bool:=decide (sc.names.lookup x=some .local) && !(x == ("__debug__":Str)) && !(x == ("__classdict__":Str))
def nmC (sc:Scope) (x:Str):Bool:=decide (sc.names.lookup x=some .cell) && !(x == ("__debug__":Str)) && !(x == ("__classdict__":Str))
def nmG (sc:Scope) (x:Str):Bool:=decide (sc.names.lookup x=some .globalImplicit) && !(x == ("__debug__":Str)) && !decide (x="__name__")
theorem NmL.of {sc:Scope} {x:Str} (h:nmL sc x=true):NmL sc x:=by
 unfold nmL at h;simp only [Bool.and_eq_true,decide_eq_true_eq,Bool.not_eq_true'] at h;exact ⟨h.1.1,h.1.2,h.2⟩
theorem NmC.of {sc:Scope} {x:Str} (h:nmC sc x=true):NmC sc x:=by
 unfold nmC at h;simp only [Bool.and_eq_true,decide_eq_true_eq,Bool.not_eq_true'] at h;exact ⟨h.1.1,h.1.2,h.2⟩
theorem NmG.of {sc:Scope} {x:Str} (h:nmG sc x=true):NmG sc x:=by
 unfold nmG at h;simp only [Bool.and_eq_true,decide_eq_true_eq,Bool.not_eq_true',decide_eq_false_iff_not] at h;exact ⟨h.1.1,h.1.2,h.2⟩
def S9 (N ps:List Str) (sc:Scope):Bool:=decide (sc.kind=.function) && !sc.isCoroutine && !sc.isGenerator && decide N.Nodup && decide (N.take ps.length=ps) && (ps.all fun x=>decide (sc.names.lookup x=some .local\/sc.names.lookup x=some .cell)) && (sc.names.all fun y=>decide (y.2≠.free))
theorem FnScope.of {N ps:List Str} {sc:Scope} (h:S9 N ps sc=true):FnScope N ps sc:=by
 unfold S9 at h;simp only [Bool.and_eq_true,decide_eq_true_eq,Bool.not_eq_true',List.all_eq_true] at h;obtain ⟨⟨⟨⟨⟨⟨h1,h2⟩,h3⟩,h4⟩,h5⟩,h6⟩,h7⟩:=h;exact ⟨h1,h2,h3,h4,h5,h6,h7⟩
theorem pvl {X:Cx} (i:Nat) {x:Str} {pos:Pos} (n:NmL X.env.scope x) (hN:X.N[i]?=some x:=by rfl):PE X (.Name x pos) (AY i):=GR hN (.inl n.l) n.d n.c
theorem pvc {X:Cx} (i:Nat) {x:Str} {pos:Pos} (n:NmC X.env.scope x) (hN:X.N[i]?=some x:=by rfl):PE X (.Name x pos) (AY i):=GR hN (.inr (.inl n.l)) n.d n.c
theorem On {CX:CXT} {P:Program} {w:World} {K:PySem.W.Frag} {mg:Str->Option Value} {base:Heap} {N:List Str} {qual:Str} {scope:Scope} {f:Addr} {cd:Value} {A:Around} {outer:List Env} {s:Shared} {H:Hp} {E:XK} :
   (pE CX P w K mg base N qual scope f cd A outer s H E).K=K:=rfl
theorem Eo (D:Ends) (σ:St) (H:Hp):tNever D σ H=False:=rfl
theorem R3 (i j:Int):rL (.int i) (.int j)=true:=rfl
theorem SR (i j:Bool):rL (.bl i) (.bl j)=true:=rfl
theorem R6 (i:Int):rL (.int i) .non=true:=rfl
theorem Sh (i:Int):rL .non (.int i)=true:=rfl
theorem SJ:rL .non .non=true:=rfl
theorem Sj (i j:Str):rL (.str i) (.str j)=true:=rfl
theorem ixT {K:PySem.W.Frag} {H:Hp} {p:Addr} {xs:List V} {i:Int} {v:V} {Q:VK} (h:H p=some (.tup xs)) (e:atI xs i=some v) (q:Q v H):HK K (.ref p) (.int i) H Q:=⟨p,xs,i,v,rfl,rfl,SqT.of h,e,q⟩
theorem ixL {K:PySem.W.Frag} {H:Hp} {p:Addr} {xs:List V} {i:Int} {v:V} {Q:VK} (h:H p=some (.lst xs)) (e:atI xs i=some v) (q:Q v H):LI K (.ref p) (.int i) H Q:=⟨p,xs,i,v,rfl,rfl,SqL.of h,e,q⟩
theorem ixS {K:PySem.W.Frag} {H:Hp} {p:Addr} {xs:List V} {i:Int} {v:V} {Q:VK} (h:SqL K H p xs) (e:atI xs i=some v) (q:Q v H):LI K (.ref p) (.int i) H Q:=⟨p,xs,i,v,rfl,rfl,h,e,q⟩
theorem tyL {K:PySem.W.Frag} {H:Hp} {l:Addr} {xs:List V} (h:H l=some (.lst xs)):tyV K "list" (.ref l) H:=.inl ⟨rfl,_,SqL.of h⟩
theorem pN {H:Hp} {l:Addr} {xs:List V} {y:V} {Q:VK} (h:H l=some (.lst xs)) (hz:xs.length<sizeLine) (q:Q .non (upd H l (.lst (xs++[y])))):rAppend (.ref l) [y] H Q:=⟨l,xs,y,rfl,rfl,h,hz,q⟩
theorem Ro {H:Hp} {l:Addr} {xs:List V} {i:Int} {y:V} {Q:VK} (h:H l=some (.lst xs)) (h0:0<=i) (h1:i<=xs.length) (hz:xs.length<sizeLine) (q:Q .non (upd H l (.lst (xs.take i.toNat++y::xs.drop i.toNat)))):rInsert (.ref l) [.int i,y] H Q :=
 ⟨l,xs,i,y,rfl,rfl,h,h0,h1,hz,q⟩
theorem La {H:Hp} {l:Addr} {xs:List V} {y:V} {Q:VK} (h:H l=some (.lst (xs++[y]))) (q:Q y (upd H l (.lst xs))):rPop (.ref l) [] H Q :=
 ⟨l,xs++[y],y,rfl,rfl,h,by simp,by rw [List.dropLast_concat];exact q⟩
theorem bG {n:Nat} (h:n<=100000):n<sizeLine:=Nat.lt_of_le_of_lt h (by decide)
theorem aJ {n:Nat} (h:n<=100000):n<=sizeLine:=Nat.le_of_lt (bG h)
theorem cL {α:Type} {xs:List α} {i:Int} {v:α} (h0:0<=i) (h:xs[i.toNat]?=some v):atI xs i=some v:=by
 obtain ⟨n,rfl⟩:∃ n:Nat,i=n:=⟨i.toNat,by omega⟩;exact De (by simpa using h)
theorem AL {X:Cx} {x:Str} {i:Int} {pos:Pos} (hg:Gl X x) (hm:∃ t,X.mg x=some (.int i t)) (hd:(x == ("__debug__":Str))=false:=by decide):PE X (.Name x pos) (tC (.int i)):=by
 obtain ⟨t,e⟩:=hm;exact S0 hg e ⟨t,rfl⟩ hd
def Itx (K:PySem.W.Frag):Bool->Addr->It
 | true,a=>Itl K a
 | false,a=>Itt K a
def Rv (K:PySem.W.Frag) (c:Bool) (tl:TE):TI:=fun σ H R=>tl σ H fun x H1=>∃ a,x=.ref a/\(∃ xs,SqX K c H1 a xs)/\R (Itx K c a) H1
theorem Uc {X:Cx} {tg l:Expr} {tl:TE} (c:Bool) (hl:PE X l tl):PI X tg l (Rv X.K c tl):=by
 cases c
 . exact xq hl
 . exact eY hl
def rA (J:It) (p:Addr) (Q:VK) (g:TG) (tc:TT) (te:TE) (σ0:St) (H0:Hp):Prop :=
 ∃ W:Nat->Nat->List V->St->Hp->Prop,(∃ m,W 0 m [] σ0 H0)/\∀ i m ys σc Hc,W i m ys σc Hc ->
   (J.stop i Hc/\Q (.ref p) Hc)\/(J.go i Hc/\∀ x H',J.yld i Hc x H'->g x σc H' fun σ2 H2=>tc σ2 H2 fun b H3 =>
     if b=true then te σ2 H3 fun y H4=>H4 p=some (.lst ys)/\ys.length<sizeLine/\∃ m',m'<m/\W (i+1) m' (ys++[y]) σ2 (upd H4 p (.lst (ys++[y])))
     else ∃ m',m'<m/\W (i+1) m' ys σ2 H3)
theorem Ex {own:Nat} {js:List Nat} {wi:TI} {g:TG} {tc:TT} {te:TE} {σ:St} {H:Hp} {Q:VK}:Mx own js wi g tc te σ H Q=wi σ H fun J H1=>∀ p,H1 p=none->rA J p Q g tc te (gH own js σ) (upd H1 p (.lst [])):=rfl
def oN (J:It) (D:Ends) (g:TG) (tb:TS) (σ:St) (H:Hp):Prop:=∃ W:Nat->Nat->St->Hp->Prop,(∃ m,W 0 m σ H)/\∀ i m σ H,W i m σ H ->
 (J.stop i H/\D.nx σ H)\/(J.go i H/\∃ N:St->Hp->Prop,(∀ σ' H',N σ' H'->∃ m',m'<m/\W (i+1) m' σ' H')/\∀ x H',J.yld i H x H'->g x σ H' fun σ2 H2=>tb { D with nx:=N,ct:=N,bk:=D.nx } σ2 H2)
theorem Kk {wi:TI} {g:TG} {tb:TS} {D:Ends} {σ:St} {H:Hp}:Tk wi g tb D σ H=wi σ H fun J H1=>oN J D g tb σ H1:=rfl
theorem lU {K:PySem.W.Frag} {c:Bool} {a p:Addr} {xs:List V} {Q:VK} {g:TG} {tc:TT} {te:TE} {σ0:St} {H0:Hp} (Pv:Nat->List V->St->Hp->Prop) (h0:Pv 0 [] σ0 H0) (hl:∀ i ys σ H,i<=xs.length->Pv i ys σ H->SqX K c H a xs)
   (hs:∀ (i:Nat) (x:V) (ys:List V) (σ:St) (H:Hp) (N:List V->St->Hp->Prop),(∀ ys' σ' H',Pv (i+1) ys' σ' H'->N ys' σ' H')->xs[i]?=some x->Pv i ys σ H->g x σ H fun σ2 H2=>tc σ2 H2 fun b H3 =>
     if b=true then te σ2 H3 fun y H4=>H4 p=some (.lst ys)/\ys.length<sizeLine/\N (ys++[y]) σ2 (upd H4 p (.lst (ys++[y]))) else N ys σ2 H3)
   (hd:∀ ys σ H,Pv xs.length ys σ H->Q (.ref p) H):rA (Itx K c a) p Q g tc te σ0 H0:=by
 refine ⟨fun i m ys σ H=>m=xs.length - i/\i<=xs.length/\Pv i ys σ H,⟨xs.length,by simp,Nat.zero_le _,h0⟩,?_⟩;rintro i m ys σ H ⟨rfl,hi,pv⟩;have q:=hl i ys σ H hi pv;by_cases hlt:i<xs.length
 . refine .inr ⟨?_,fun x H' y=>?_⟩
   . cases c
     . exact ⟨xs,xs[i],q,by simp [hlt]⟩
     . exact ⟨xs,xs[i],q,by simp [hlt]⟩
   . have e:H'=H/\xs[i]?=some x:=by
       cases c
       . exact ⟨y.1,y.2 xs q⟩
       . exact ⟨y.1,y.2 xs q⟩
     obtain ⟨rfl,hx⟩:=e;exact hs i x ys σ _ (fun ys' σ' H'=>∃ m',m'<xs.length - i/\(m'=xs.length - (i+1)/\i+1<=xs.length/\Pv (i+1) ys' σ' H')) (fun ys' σ' H' pv'=>⟨xs.length - (i+1),by omega,rfl,hlt,pv'⟩) hx pv
 . have e:i=xs.length:=by omega
   subst e;refine .inl ⟨?_,hd ys σ H pv⟩;cases c
   . exact ⟨xs,q,Nat.le_refl _⟩
   . exact ⟨xs,q,Nat.le_refl _⟩
theorem j8 {lo:Int} {n:Nat} {p:Addr} {Q:VK} {g:TG} {tc:TT} {te:TE} {σ0:St} {H0:Hp} (Pv:Nat->List V->St->Hp->Prop) (h0:Pv 0 [] σ0 H0)
   (hs:∀ (i:Nat) (ys:List V) (σ:St) (H:Hp) (N:List V->St->Hp->Prop),(∀ ys' σ' H',Pv (i+1) ys' σ' H'->N ys' σ' H')->i<n->Pv i ys σ H->g (.int (lo+i)) σ H fun σ2 H2=>tc σ2 H2 fun b H3 =>
     if b=true then te σ2 H3 fun y H4=>H4 p=some (.lst ys)/\ys.length<sizeLine/\N (ys++[y]) σ2 (upd H4 p (.lst (ys++[y]))) else N ys σ2 H3)
   (hd:∀ ys σ H,Pv n ys σ H->Q (.ref p) H):rA (Itr lo n) p Q g tc te σ0 H0:=by
 refine ⟨fun i m ys σ H=>m=n - i/\i<=n/\Pv i ys σ H,⟨n,by simp,Nat.zero_le _,h0⟩,?_⟩;rintro i m ys σ H ⟨rfl,hi,pv⟩;by_cases hlt:i<n
 . refine .inr ⟨hlt,fun x H' y=>?_⟩;obtain ⟨rfl,rfl⟩:=y;exact hs i ys σ _ (fun ys' σ' H'=>∃ m',m'<n - i/\(m'=n - (i+1)/\i+1<=n/\Pv (i+1) ys' σ' H')) (fun ys' σ' H' pv'=>⟨n - (i+1),by omega,rfl,hlt,pv'⟩) hlt pv
 . have e:i=n:=by omega
   subst e;exact .inl ⟨Nat.le_refl _,hd ys σ H pv⟩
theorem jI:bootBuiltins "len"=some (.builtin "len"):=by decide +kernel
theorem wD:bootBuiltins "isinstance"=some (.builtin "isinstance"):=by decide +kernel
theorem MR:bootBuiltins "max"=some (.builtin "max"):=by decide +kernel
theorem NT:bootBuiltins "sorted"=some (.builtin "sorted"):=by decide +kernel
theorem Gv:bootBuiltins "int"=some (.type "int"):=by decide +kernel
theorem JU:bootBuiltins "list"=some (.type "list"):=by decide +kernel
theorem HH:bootBuiltins "tuple"=some (.type "tuple"):=by decide +kernel
theorem SF:bootBuiltins "bool"=some (.type "bool"):=by decide +kernel
section
variable {X:Cx} {a b o e:Expr} {es:List Expr} {ta tb to:TE} {t:TA} {pos apos cpos:Pos} {f name:Str} {T id:String} {r:V->List V->Hp->VK->Prop}
theorem C9 (K:PySem.W.Frag) (h:X.K=K):j9 X (.type "tuple") (fun xs H Q=>∃ p ys,xs=[.ref p]/\((SqL K H p ys/\∀ l,H l=none->Q (.ref l) (upd H l (.tup ys)))\/(SqT K H p ys/\Q (.ref p) H))):=by subst h;exact wC
theorem oH (K:PySem.W.Frag) (h:X.K=K):IxR X (LI K):=by subst h;exact aM
theorem CU (K:PySem.W.Frag) (h:X.K=K):IxR X (HK K):=by subst h;exact jc
theorem KC (K:PySem.W.Frag) (h:X.K=K):OpR X (compareOp .In) (rIn K false):=by subst h;exact Oq
end
theorem BN {x:Str} {k:NameKind}:∀ {l:List (Str × NameKind)},l.lookup x=some k->∃ y,(y,k)∈l
 | [],h=>by simp at h
 | (n,j)::r,h=>by
   rw [List.lookup_cons] at h;cases q:x == n with
   | true =>
     rw [q] at h;cases h;exact ⟨n,List.mem_cons_self⟩
   | false =>
     rw [q] at h;obtain ⟨y,hy⟩:=BN h;exact ⟨y,List.mem_cons_of_mem _ hy⟩
theorem wp {X:Cx} {Nc:List Str} {scope:Scope} (own:Nat) (hf:∀ y∈scope.names,y.2≠.free) (hc:∀ y∈scope.names,y.2≠.cell) (hk:scope.kind=.function) (hn:∀ y∈scope.names,y.2=.local->scope.names.lookup y.1=some .local)
   (hl:Nc.length=own):CompTxt X Nc own [] scope [] where
 clos:=closureFor_none hf
 kind:=hk
 nocell:=hc
 names:=hn
 cells:=fun x c h=>by cases h
 has:=fun x h=>by
   have key:∀ k,(relabel scope X.env).names.lookup x=some k->k≠.cell/\k≠.free:=fun k e=>by
     obtain ⟨y,hy⟩:=BN e;obtain ⟨⟨n,k0⟩,hm,e2⟩:=List.mem_map.mp hy;have h1:=hf _ hm;have h2:=hc _ hm;have e3:(k0 == NameKind.free)=false:=(by simpa using h1);simp only [e3,Bool.false_and,Bool.false_eq_true,if_false] at e2;cases e2;exact ⟨h2,h1⟩
   rcases h with h|h
   . exact absurd rfl (key _ h).1
   . exact absurd rfl (key _ h).2
 len:=by simpa using hl
 outer:=fun i x h=>by
   rw [List.getElem?_eq_none (by omega)] at h;cases h
theorem xV {K:PySem.W.Frag} {a:Addr} {xs:List V} {g:TG} {tb:TS} {D:Ends} {σ:St} {H:Hp} (Pv:Nat->St->Hp->Prop) (h0:Pv 0 σ H) (hl:∀ i σ H,i<=xs.length->Pv i σ H->SqL K H a xs)
   (hs:∀ (i:Nat) (x:V) (σ:St) (H:Hp) (N:St->Hp->Prop),(∀ σ' H',Pv (i+1) σ' H'->N σ' H')->xs[i]?=some x->Pv i σ H->g x σ H fun σ2 H2=>tb { D with nx:=N,ct:=N,bk:=D.nx } σ2 H2) (hd:∀ σ H,Pv xs.length σ H->D.nx σ H) :
   oN (Itl K a) D g tb σ H:=Ri Pv h0 hl (fun i x σ H hx p=>hs i x σ H (Pv (i+1)) (fun _ _ z=>z) hx p) hd
theorem GM {K:PySem.W.Frag} {a:Addr} {xs:List V} {g:TG} {tb:TS} {D:Ends} {σ:St} {H:Hp} (Pv:Nat->St->Hp->Prop) (h0:Pv 0 σ H) (hl:∀ i σ H,i<=xs.length->Pv i σ H->SqT K H a xs)
   (hs:∀ (i:Nat) (x:V) (σ:St) (H:Hp) (N:St->Hp->Prop),(∀ σ' H',Pv (i+1) σ' H'->N σ' H')->xs[i]?=some x->Pv i σ H->g x σ H fun σ2 H2=>tb { D with nx:=N,ct:=N,bk:=D.nx } σ2 H2) (hd:∀ σ H,Pv xs.length σ H->D.nx σ H) :
   oN (Itt K a) D g tb σ H:=CM Pv h0 hl (fun i x σ H hx p=>hs i x σ H (Pv (i+1)) (fun _ _ z=>z) hx p) hd
theorem qw {lo:Int} {n:Nat} {g:TG} {tb:TS} {D:Ends} {σ:St} {H:Hp} (Pv:Nat->St->Hp->Prop) (h0:Pv 0 σ H)
   (hs:∀ (i:Nat) (σ:St) (H:Hp) (N:St->Hp->Prop),(∀ σ' H',Pv (i+1) σ' H'->N σ' H')->i<n->Pv i σ H->g (.int (lo+i)) σ H fun σ2 H2=>tb { D with nx:=N,ct:=N,bk:=D.nx } σ2 H2) (hd:∀ σ H,Pv n σ H->D.nx σ H) :
   oN (Itr lo n) D g tb σ H:=NK Pv h0 (fun i σ H hi p=>hs i σ H (Pv (i+1)) (fun _ _ z=>z) hi p) hd
theorem yX {c:TT} {tb:TS} {D:Ends} {σ:St} {H:Hp} (W:Nat->St->Hp->Prop) (n0:Nat) (h0:W n0 σ H)
   (hs:∀ (n:Nat) (σ:St) (H:Hp) (N:St->Hp->Prop),(∀ n' σ' H',n'<n->W n' σ' H'->N σ' H')->(∀ σ' H',N σ' H'->∃ m',m'<n/\W m' σ' H')->W n σ H ->
     c σ H fun b H1=>if b=true then ∃ N:St->Hp->Prop,(∀ σ' H',N σ' H'->∃ m',m'<n/\W m' σ' H')/\tb { D with nx:=N,ct:=N,bk:=D.nx } σ H1 else D.nx σ H1):GS c tb D σ H :=
 ⟨W,⟨n0,h0⟩,fun n σ H w=>hs n σ H (fun σ' H'=>∃ m',m'<n/\W m' σ' H') (fun n' _ _ hn w'=>⟨n',hn,w'⟩) (fun _ _ z=>z) w⟩
theorem JN {a:Int} {n:Nat} (h:a.natAbs<2^n):Builtin.Int.intBits a<=n:=by
 unfold Builtin.Int.intBits;by_cases z:a=0
 . subst z;simp
 . have hz:(a == 0)=false:=by simpa using z
   rw [hz];simp only [Bool.false_eq_true,if_false];have:=(Nat.log2_lt (by omega)).mpr h;omega
open Pb
def j7 (r:Road):List V:=[.int r.a,.int r.b,.int r.t,.int r.u]
abbrev RoadsAt (H:Hp):List Addr->List Road->Prop:=Paired fun p r=>H p=some (.tup (j7 r))
theorem RoadsAt.same {H H':Hp} (e:Same H H') {ps:List Addr} {rs:List Road} (h:RoadsAt H ps rs):RoadsAt H' ps rs:=Paired.imp' (fun p r q=>e p _ q) h
theorem RoadsAt.get {H:Hp}:∀ {ps:List Addr} {rs:List Road} {i:Nat} {x:V},RoadsAt H ps rs->(ps.map V.ref)[i]?=some x->∃ p r,x=.ref p/\ps[i]?=some p/\rs[i]?=some r/\H p=some (.tup (j7 r))
 | _,_,i,x,.nil,e=>by simp at e
 | _,_,0,x,.cons (a:=p) (b:=r) h hs,e=>⟨p,r,by simpa using e.symm,by simp,by simp,h⟩
 | a::l1,_,i+1,x,.cons h hs,e=>by
   have e':(List.map V.ref l1)[i]?=some x:=by simpa using e
   obtain ⟨p,r,h1,h2,h3,h4⟩:=RoadsAt.get hs e';exact ⟨p,r,h1,by simpa using h2,by simpa using h3,h4⟩
theorem Same.tup {K:PySem.W.Frag} {H H':Hp} {a:Addr} {xs:List V} (e:Same H H') (h:SqT K H a xs):SqT K H' a xs:=by
 rcases h with (h|⟨o,h⟩)|h
 . exact .inl (.inl (e _ _ h))
 . exact .inl (.inr ⟨o,e _ _ h⟩)
 . exact .inr h
theorem Same.sqX {K:PySem.W.Frag} {H H':Hp} {c:Bool} {a:Addr} {xs:List V} (e:Same H H') (h:SqX K c H a xs):SqX K c H' a xs:=by
 cases c
 . exact Same.tup e h
 . exact Same.seq e h
theorem Same.new {H:Hp} {p:Addr} (o:HO) (h:H p=none):Same H (upd H p o):=fun b u e=>by rw [ao (ay e h)];exact e
end L2
namespace L2
open PySem PySem.Spec PyProof.Rows
abbrev bmV:List Value:=[.type "ValueError",.type "Exception",.type "BaseException",.type "object"]
end L2
namespace L2
open PySem PySem.Spec PyProof.Rows
def mC (h:Heap) (ea:Addr) (cls:Value) (od:Option Addr) (head:Value):Prop:=∃ oe vs,h.get? ea=some oe/\oe.cls=cls/\oe.dict=od/\oe.data=.fields vs/\vs[1]?=some head/\vs[2]?=some .none
def TbO (h:Heap) (T:Addr) (fl:Value):Prop:=∃ oT ts,h.get? T=some oT/\oT.data=.fields ts/\ts[3]?=some fl
structure Err (h:Heap) (ea T:Addr) (cls:Value) (od:Option Addr) (fl:Value):Prop where
 e:mC h ea cls od (.ref T)
 t:TbO h T fl
 ne:T≠ea
structure Kept (fs xs:List Addr) (h h':Heap):Prop where
 keep:∀ b o,h.get? b=some o->b ∉ fs->b ∉ xs->h'.get? b=some o
 slot:∀ b o,h.get? b=some o->b∈fs->b ∉ xs->∃ sl,h'.get? b=some { o with slots:=sl }
 there:∀ b o,h.get? b=some o->∃ o',h'.get? b=some o'
theorem Kept.mono {fs xs ys:List Addr} {h h':Heap} (k:Kept fs xs h h') (s:∀ b∈xs,b∈ys):Kept fs ys h h':=⟨fun b o e f x=>k.keep b o e f fun z=>x (s b z),fun b o e f x=>k.slot b o e f fun z=>x (s b z),k.there⟩
theorem Kept.trans {fs xs:List Addr} {h h1 h2:Heap} (a:Kept fs xs h h1) (b:Kept fs xs h1 h2):Kept fs xs h h2 where
 keep:=fun c o e f x=>b.keep c o (a.keep c o e f x) f x
 slot:=fun c o e f x=>by
   obtain ⟨s1,e1⟩:=a.slot c o e f x;obtain ⟨s2,e2⟩:=b.slot c _ e1 f x;exact ⟨s2,e2⟩
 there:=fun c o e=>by
   obtain ⟨o1,e1⟩:=a.there c o e;exact b.there c o1 e1
theorem Kept.of_all {fs xs:List Addr} {h h':Heap} (k:∀ b o,h.get? b=some o->h'.get? b=some o):Kept fs xs h h':=⟨fun b o e _ _=>k b o e,fun b o e _ _=>⟨o.slots,k b o e⟩,fun b o e=>⟨o,k b o e⟩⟩
theorem Az {fs xs:List Addr} {h:Heap} {a:Addr} {oa:Obj} {vs:Array Value} {i:Nat} {v:Value} (ha:h.get? a=some oa) (hd:oa.data=.fields vs) (hx:a∈xs):Kept fs xs h (h.update a (Obj.mapFields (·.setIfInBounds i v))):=by
 have oth:∀ b o,h.get? b=some o->b ∉ xs->(h.update a (Obj.mapFields (·.setIfInBounds i v))).get? b=some o:=fun b o e x=>by
   rw [Heap.get?_update_other _ _ (fun (z:a=b)=>x (z ▸ hx))];exact e
 refine ⟨fun b o e _ x=>oth b o e x,fun b o e _ x=>⟨o.slots,oth b o e x⟩,fun b o e=>?_⟩;by_cases z:b=a
 . subst z;exact ⟨_,Heap.get?_update_self _ ha (Obj.isFreed_of_fields (Obj.data_mapFields hd _))⟩
 . rw [Heap.get?_update_other _ _ (Ne.symm z)];exact ⟨o,e⟩
theorem QL {h:Heap} {ea:Addr} {cls hd v:Value} {od:Option Addr} (e:mC h ea cls od hd):mC (h.update ea (Obj.mapFields (·.setIfInBounds 1 v))) ea cls od v:=by
 obtain ⟨oe,vs,h1,h2,h3,h4,h5,h6⟩:=e;have sz:1<vs.size:=(Array.getElem?_eq_some_iff.mp h5).1;refine ⟨_,_,Heap.get?_update_self _ h1 (Obj.isFreed_of_fields (Obj.data_mapFields h4 _)),?_,?_,Obj.data_mapFields h4 _,by simp [sz],by rw [Array.getElem?_setIfInBounds_ne (by decide)];exact h6⟩
 . rw [<- h2];exact Obj.cls_mapFields _ _
 . rw [<- h3];obtain ⟨c,d,dt,sl⟩:=oe;cases dt <;> rfl
theorem Bz {h:Heap} {ea a:Addr} {cls hd:Value} {od:Option Addr} {f:Obj->Obj} (e:mC h ea cls od hd) (ne:a≠ea):mC (h.update a f) ea cls od hd:=by
 obtain ⟨oe,vs,h1,h2⟩:=e;exact ⟨oe,vs,by rw [Heap.get?_update_other _ _ ne];exact h1,h2⟩
theorem Ep {h h':Heap} {ea:Addr} {cls hd:Value} {od:Option Addr} (e:mC h ea cls od hd) (k:∀ o,h.get? ea=some o->h'.get? ea=some o):mC h' ea cls od hd:=by
 obtain ⟨oe,vs,h1,h2⟩:=e;exact ⟨oe,vs,k _ h1,h2⟩
theorem Oj {h base:Heap} {ea:Addr} {cls hd:Value} {od:Option Addr} {l:List Env} (e:mC h ea cls od hd) (f:h.FunFrames base l):ea ∉ frs l:=fun z=>by
 obtain ⟨oe,vs,h1,_,_,h4,_⟩:=e;obtain ⟨_,o,ho,hn⟩:=f.mem z;rw [h1] at ho;cases ho;exact hn vs h4
theorem Rl {h base:Heap} {T:Addr} {fl:Value} {l:List Env} (e:TbO h T fl) (f:h.FunFrames base l):T ∉ frs l:=fun z=>by
 obtain ⟨oe,vs,h1,h4,_⟩:=e;obtain ⟨_,o,ho,hn⟩:=f.mem z;rw [h1] at ho;cases ho;exact hn vs h4
section
variable {M:Model} {A:Around} {E:Value->Shared->Prop} {s:Shared} {Q:Unit->Shared->Prop} {fs:List Addr} {ea T L:Addr} {cls fl hd:Value} {od:Option Addr} {base:Heap} {env:Env} {outer:List Env}
theorem Kf (r:Err s.heap ea T cls od fl) (h:∀ h',Err h' ea T cls od .none->Kept fs [T] s.heap h'->Q () { s with heap:=h' }):wpAny M A (setFlight (.ref ea) none) Q E s:=by
 obtain ⟨⟨oe,vs,h1,h2,h3,h4,h5,h6⟩,⟨oT,ts,t1,t2,t3⟩,ne⟩:=r;have sz:3<ts.size:=(Array.getElem?_eq_some_iff.mp t3).1;unfold setFlight;refine wpAny_bind (wpAny_field h1 h4 h5 ?_);rw [if_pos (by simp:(Value.ref T != Value.none)=true)];refine wpAny_setField t1 t2 sz (h _ ⟨Bz ⟨oe,vs,h1,h2,h3,h4,h5,h6⟩ ne,⟨_,_,Heap.get?_update_self _ t1 (Obj.isFreed_of_fields (Obj.data_mapFields t2 _)),Obj.data_mapFields t2 _,by simp [sz]⟩,ne⟩ (Az t1 t2 (by simp)))
theorem Ga {head:Value} {hadNext:Bool} (hfr:A.frames=some (env::outer)) (hl:s.heap.FunFrames base (env::outer)) (hf:env.frame=some L) (r:mC s.heap ea cls od hd)
   (h:∀ h' T',Err h' ea T' cls od (rawInt L)->Kept (frs (env::outer)) [ea] s.heap h'->s.heap.get? T'=none->Q () { s with heap:=h' }) :
   wpAny M A (do let a <- frameOf env;let pl <- entryPlaceOf L hadNext;let b <- EntryCells.newEntry head a .none (rawInt L) .none pl;setField (.ref ea) 1 b) Q E s:=by
 have nf:=Oj r hl;refine wpAny_bind (wpAny_frameOf_fun hfr hl hf fun g1 so=>wpAny_bind (wpAny_entryPlaceOf fun pl hpl=>?_));unfold EntryCells.newEntry newFields;refine wpAny_bind (wpAny_newObj_type ?_ (hpl.sizeOk5 _ _ _ _ _));have r1:mC g1 ea cls od hd:=Ep r fun o e=>(so.2.1 ea nf).trans e;generalize ht:({ cls:=.type "traceback",dict:=none,data:=.fields ([head,.ref L,.none,rawInt L,.none]++(if pl.isEmpty then List.replicate 6 Value.none else pl)).toArray }:Obj)=tb;have r2:mC (g1.push tb) ea cls od hd:=Ep r1 fun o e=>Heap.get?_push_of_some _ e;obtain ⟨oe,vs,e1,e2,e3,e4,e5,e6⟩:=id r2;have lt:ea<g1.objs.size:=by
   obtain ⟨_,_,e,_⟩:=r1;exact Heap.lt_size e
 have hT:(g1.push tb).get? g1.objs.size=some tb:=Heap.get?_push_size g1 (by rw [<- ht];rfl);refine wpAny_setField e1 e4 (Array.getElem?_eq_some_iff.mp e5).1 (h _ g1.objs.size ⟨QL r2,⟨tb,([head,.ref L,.none,rawInt L,.none]++(if pl.isEmpty then List.replicate 6 Value.none else pl)).toArray,?_,by rw [<- ht],by simp⟩,Nat.ne_of_gt lt⟩ ?_ ?_)
 . rw [Heap.get?_update_other _ _ (Nat.ne_of_lt lt)];exact hT
 . have k1:Kept (frs (env::outer)) [ea] s.heap g1:=⟨fun b o e f _=>(so.2.1 b f).trans e,fun b o e _ _=>so.2.2 b o e,fun b o e=>by
     obtain ⟨sl,z⟩:=so.2.2 b o e;exact ⟨_,z⟩⟩
   exact k1.trans ((Kept.of_all fun b o e=>Heap.get?_push_of_some _ e).trans (Az e1 e4 (by simp)))
 . exact Heap.get?_none_of_le (by rw [so.1];exact Nat.le_refl _)
theorem P5 (hfr:A.frames=some (env::outer)) (hl:s.heap.FunFrames base (env::outer)) (hf:env.frame=some L) (r:mC s.heap ea cls od .none)
   (h:∀ h' T',Err h' ea T' cls od (rawInt L)->Kept (frs (env::outer)) [ea] s.heap h'->s.heap.get? T'=none->Q () { s with heap:=h' }):wpAny M A (noteFrame (.ref ea) env) Q E s:=by
 obtain ⟨oe,vs,e1,e2,e3,e4,e5,e6⟩:=id r;unfold noteFrame;simp only [hf];refine wpAny_bind (wpAny_field e1 e4 e5 ?_);rw [if_neg (by decide)];exact Ga hfr hl hf r h
theorem SC (hfr:A.frames=some (env::outer)) (hl:s.heap.FunFrames base (env::outer)) (hf:env.frame=some L) (r:Err s.heap ea T cls od .none)
   (h:∀ h' T',Err h' ea T' cls od (rawInt L)->Kept (frs (env::outer)) [ea,T] s.heap h'->s.heap.get? T'=none->Q () { s with heap:=h' }):wpAny M A (noteFrame (.ref ea) env) Q E s:=by
 have nT:=Rl r.t hl;obtain ⟨⟨oe,vs,e1,e2,e3,e4,e5,e6⟩,⟨oT,ts,t1,t2,t3⟩,ne⟩:=id r;unfold noteFrame;simp only [hf];refine wpAny_bind (wpAny_field e1 e4 e5 ?_);rw [if_pos (by simp:(Value.ref T != Value.none)=true)];refine wpAny_bind (wpAny_field t1 t2 t3 ?_);rw [if_neg (by simp [rawInt])];have k1:Kept (frs (env::outer)) [ea,T] s.heap (s.heap.update T (Obj.mapFields (·.setIfInBounds 3 Value.none))):=Az t1 t2 (by simp);refine wpAny_bind (wpAny_setField t1 t2 (Array.getElem?_eq_some_iff.mp t3).1 ?_);refine Ga hfr (hl.of_keeps fun b o e nf=>⟨o,?_,rfl⟩) hf (Bz r.e ne) fun h' T' r' k2 n=>h h' T' r' (k1.trans (k2.mono (by simp))) ?_
 . by_cases z:b=T
   . subst z;rw [t1] at e;cases e;exact absurd t2 (nf ts)
   . rw [Heap.get?_update_other _ _ (Ne.symm z)];exact e
 . cases q:s.heap.get? T' with
   | none=>rfl
   | some o =>
     obtain ⟨o',z⟩:=k1.there T' o q;rw [z] at n;cases n
theorem NL (hfr:A.frames=some (env::outer)) (hl:s.heap.FunFrames base (env::outer)) (hf:env.frame=some L) (r:mC s.heap ea cls od .none)
   (h:∀ h' T',Err h' ea T' cls od .none->Kept (frs (env::outer)) [ea] s.heap h'->s.heap.get? T'=none->Q () { s with heap:=h' }):wpAny M A (leaving env (.ref ea)) Q E s:=by
 unfold leaving;refine wpAny_bind (P5 hfr hl hf r fun h1 T1 r1 k1 n1=>Kf (fs:=frs (env::outer)) (s:={ s with heap:=h1 }) r1 fun h2 r2 k2=>h h2 T1 r2 ⟨fun b o e f x=>k2.keep b o (k1.keep b o e f x) f ?_,fun b o e f x=>?_,fun b o e=>?_⟩ n1)
 . simp only [List.mem_singleton];rintro rfl;rw [n1] at e;cases e
 . obtain ⟨s1,e1⟩:=k1.slot b o e f x;obtain ⟨s2,e2⟩:=k2.slot b _ e1 f (by
     simp only [List.mem_singleton];rintro rfl;rw [n1] at e;cases e)
   exact ⟨s2,e2⟩
 . obtain ⟨o1,e1⟩:=k1.there b o e;exact k2.there b o1 e1
theorem OZ (hfr:A.frames=some (env::outer)) (hl:s.heap.FunFrames base (env::outer)) (hf:env.frame=some L) (r:Err s.heap ea T cls od .none)
   (h:∀ h' T',Err h' ea T' cls od .none->Kept (frs (env::outer)) [ea,T] s.heap h'->s.heap.get? T'=none->Q () { s with heap:=h' }):wpAny M A (leaving env (.ref ea)) Q E s:=by
 unfold leaving;refine wpAny_bind (SC hfr hl hf r fun h1 T1 r1 k1 n1=>Kf (fs:=frs (env::outer)) (s:={ s with heap:=h1 }) r1 fun h2 r2 k2=>h h2 T1 r2 ⟨fun b o e f x=>k2.keep b o (k1.keep b o e f x) f ?_,fun b o e f x=>?_,fun b o e=>?_⟩ n1)
 . simp only [List.mem_singleton];rintro rfl;rw [n1] at e;cases e
 . obtain ⟨s1,e1⟩:=k1.slot b o e f x;obtain ⟨s2,e2⟩:=k2.slot b _ e1 f (by
     simp only [List.mem_singleton];rintro rfl;rw [n1] at e;cases e)
   exact ⟨s2,e2⟩
 . obtain ⟨o1,e1⟩:=k1.there b o e;exact k2.there b o1 e1
end
def CXe (P:Program) (w:World):CXT:=fun outer H s E e s'=>∃ (ea T:Addr) (cls:Value) (od:Option Addr) (H':Hp),e=.ref ea/\s'.os=s.os/\AllBare s'.gens/\Un (frs outer) [] H H' s.heap s'.heap/\HOk P w H' s'.heap /\
 H' ea=none/\H' T=none/\s.heap.get? ea=none/\s.heap.get? T=none/\Err s'.heap ea T cls od .none/\E cls od H'
theorem aG {P:Program} {w:World}:aQ (CXe P w):=fun outer H s e s' h=>by
 obtain ⟨_,_,_,_,_,_,_,_,_,_,_,_,_,_,_,z⟩:=h;exact z
theorem FG {P:Program} {w:World} {H:Hp} {h h':Heap} {fs xs:List Addr} (x:HOk P w H h) (k:Kept fs xs h h') (f:∀ b∈fs,H b=none) (u:∀ b∈xs,H b=none):HOk P w H h':=fun a o e=>by
 refine (x a o e).stay (fun b ob hb q=>k.keep b ob q ?_ ?_) (fun _ q=>q) fun _ _ q=>q
 . intro z;rcases hb with rfl|hb
   . rw [f _ z] at e;cases e
   . rw [f _ z] at hb;cases hb
 . intro z;rcases hb with rfl|hb
   . rw [u _ z] at e;cases e
   . rw [u _ z] at hb;cases hb
theorem Ms {P:Program} {w:World} {H:Hp} {h:Heap} {b:Addr} (x:HOk P w H h) (n:h.get? b=none):H b=none:=by
 cases q:H b with
 | none=>rfl
 | some o =>
   have lt:=x.lt q;cases z:h.get? b with
   | some o'=>rw [z] at n;cases n
   | none =>
     exfalso
     have:=(x b o q);cases o with
     | lst xs=>obtain ⟨_,_,_,_,e⟩:=this;rw [n] at e;cases e
     | tup xs=>obtain ⟨_,_,_,ob,e,_⟩:=this;rw [n] at e;cases e
     | dK kvs=>obtain ⟨_,_,_,_,ob,_,_,e,_⟩:=this;rw [n] at e;cases e
     | dT kvs=>obtain ⟨_,_,_,_,ob,_,_,e,_⟩:=this;rw [n] at e;cases e
     | set S m=>obtain ⟨ob,_,_,_,e,_⟩:=this;rw [n] at e;cases e
     | ins C dx fs=>obtain ⟨_,_,_,e,_⟩:=this;rw [n] at e;cases e
     | own y=>obtain ⟨_,e⟩:=this;rw [n] at e;cases e
     | xd fs=>obtain ⟨_,⟨_,_,_,e,_⟩,_⟩:=this;rw [n] at e;cases e
     | rng lo hi=>obtain ⟨_,_,_,e⟩:=this;rw [n] at e;cases e
     | frz ob u=>obtain ⟨e,_⟩:=this;rw [n] at e;cases e
     | tbl ps=>have e:h.get? b=some _:=this;rw [n] at e;cases e
     | met f y=>have e:h.get? b=some _:=this;rw [n] at e;cases e
     | ext φ=>obtain ⟨_,⟨_,e⟩,_⟩:=this;rw [n] at e;cases e
section
variable {P:Program} {w:World} {K:PySem.W.Frag} {mg:Str->Option Value} {base:Heap} {N:List Str} {qual:Str} {scope:Scope} {f:Addr} {cd:Value} {A:Around} {outer:List Env} {s:Shared} {H:Hp} {E:XK}
theorem F6 {CX:CXT} {pins:List (Addr × Obj)} {σ:St} {H':Hp} {s':Shared} {h':Heap} {xs:List Addr} (J:Inv (pE CX P w K mg base N qual scope f cd A outer s H E) pins σ H' s') (k:Kept (frs (envOfC qual scope s.heap.objs.size f cd::outer)) xs s'.heap h') (nx:∀ b∈xs,s.heap.get? b=none) :
   Un (frs outer) [] H H' s.heap h':=by
 have b0:Un (frs outer) [] H H' s.heap s'.heap:=J.base;have nl:∀ b o,s.heap.get? b=some o->b ∉ xs:=fun b o e z=>by rw [nx b z] at e;cases e
 have nf:∀ b o,s.heap.get? b=some o->b ∉ frs outer->b ∉ frs (envOfC qual scope s.heap.objs.size f cd::outer):=fun b o e z m=>by
   unfold frs at m z;rw [List.filterMap_cons] at m;have:(envOfC qual scope s.heap.objs.size f cd).frame=some s.heap.objs.size:=rfl;rw [this] at m;rcases List.mem_cons.mp m with m|m
   . exact absurd (Heap.lt_size e) (by rw [m];exact Nat.lt_irrefl _)
   . exact z m
 refine ⟨fun b o e n hf hx=>k.keep b o (b0.keep b o e n hf hx) (nf b o e hf) (nl b o e),fun b o e n hf hx=>?_,b0.free,fun b o e hx=>?_,b0.tups,b0.frzs,b0.tbls⟩
 . obtain ⟨sl,e1⟩:=b0.slot b o e n hf hx;by_cases m:b∈frs (envOfC qual scope s.heap.objs.size f cd::outer)
   . obtain ⟨s2,e2⟩:=k.slot b _ e1 m (nl b o e);exact ⟨s2,e2⟩
   . exact ⟨sl,k.keep b _ e1 m (nl b o e)⟩
 . obtain ⟨o1,e1⟩:=b0.there b o e hx;exact k.there b o1 e1
theorem oE {CX:CXT} {pins:List (Addr × Obj)} {σ:St} {H':Hp} {s':Shared} (J:Inv (pE CX P w K mg base N qual scope f cd A outer s H E) pins σ H' s') {b:Addr} (n:s'.heap.get? b=none):s.heap.get? b=none:=by
 cases q:s.heap.get? b with
 | none=>rfl
 | some o =>
   have b0:Un (frs outer) [] H H' s.heap s'.heap:=J.base;obtain ⟨o',e⟩:=b0.there b o q (by simp);rw [n] at e;cases e
theorem fJ:uO (CXe P w) (pE (CXe P w) P w K mg base N qual scope f cd A outer s H E) E:=by
 intro pins σ H1 s1 e s' I h;obtain ⟨ea,T,cls,od,H',rfl,os,bare,un,hok,n1,n2,f1,f2,er,q⟩:=h;have J:=I.call' (ch:=[]) os un hok bare (by simp);refine OZ (base:=base) J.ok.frames J.stack rfl er fun h' T' er' k nT=>?_;have fr:∀ b∈frs (envOfC qual scope s.heap.objs.size f cd::outer),H' b=none:=J.stkFree;refine ⟨ea,T',cls,od,H',rfl,J.os,J.bare,F6 J k ?_,FG hok k fr ?_,n1,Ms hok nT,oE I f1,oE J nT,er',q⟩
 . intro b hb;simp only [List.mem_cons,List.not_mem_nil,or_false] at hb;rcases hb with rfl|rfl
   . exact oE I f1
   . exact oE I f2
 . intro b hb;simp only [List.mem_cons,List.not_mem_nil,or_false] at hb;rcases hb with rfl|rfl
   . exact n1
   . exact n2
end
def MT (X:Cx) (E:XK):Prop:=∀ (pins:List (Addr × Obj)) (σ:St) (H:Hp) (s:Shared) (ea:Addr) (cls:Value) (od:Option Addr) (h':Heap) (tk:Nat),Inv X pins σ H s->(∀ b o,s.heap.get? b=some o->h'.get? b=some o)->s.heap.get? ea=none->mC h' ea cls od .none->E cls od H ->
 X.xe (.ref ea) { s with heap:=h',toks:=tk }
section
variable {P:Program} {w:World} {K:PySem.W.Frag} {mg:Str->Option Value} {base:Heap} {N:List Str} {qual:Str} {scope:Scope} {f:Addr} {cd:Value} {A:Around} {outer:List Env} {s:Shared} {H:Hp} {E:XK}
theorem DP:MT (pE (CXe P w) P w K mg base N qual scope f cd A outer s H E) E:=by
 intro pins σ H1 s1 ea cls od h' tk I kp nw er q;have J:=I.kept (t':=tk) kp;refine NL (base:=base) J.ok.frames J.stack rfl er fun h2 T' er' k nT=>?_;have fr:∀ b∈frs (envOfC qual scope s.heap.objs.size f cd::outer),H1 b=none:=J.stkFree;refine ⟨ea,T',cls,od,H1,rfl,J.os,J.bare,F6 J k ?_,FG J.hok k fr ?_,Ms I.hok nw,Ms J.hok nT,oE I nw,oE J nT,er',q⟩
 . intro b hb;rw [List.mem_singleton.mp hb];exact oE I nw
 . intro b hb;rw [List.mem_singleton.mp hb];exact Ms I.hok nw
end
end L2
namespace L2
open PySem PySem.Spec PyProof.Rows
def Hk (K:PySem.W.Frag) (C:Addr):Prop:=∃ (nm qn:Str) (N:Addr) (bs bm:List Value) (hdct:Bool) (sn:List Str) (sub:List Value) (ab:Bool) (col:Option Bool) (dd:Option Addr) (k0 k1 k2 k3 k5:Option Value),
   K.lookup C=some (excClassObj nm qn C N bs bm hdct sn sub ab col dd k0 k1 k2 k3 k5 "ValueError.__new__")/\PySem.W.nsOkIn K N=true/\PySem.W.nsIn K N "__init__"=some none/\PySem.W.tailIn K bmV bm=true
theorem CL {K:PySem.W.Frag} {C:Addr} {o:Obj} (nm qn:Str) (N:Addr) (bs bm:List Value) (hdct:Bool) (sn:List Str) (sub:List Value) (ab:Bool) (col:Option Bool) (dd:Option Addr) (k0 k1 k2 k3 k5:Option Value) (l:K.lookup C=some o)
   (e:o=excClassObj nm qn C N bs bm hdct sn sub ab col dd k0 k1 k2 k3 k5 "ValueError.__new__") (a:PySem.W.nsOkIn K N=true) (b:PySem.W.nsIn K N "__init__"=some none) (c:PySem.W.tailIn K bmV bm=true):Hk K C:=by
 subst e;exact ⟨_,_,_,_,_,_,_,_,_,_,_,_,_,_,_,_,l,a,b,c⟩
def MP (C:Addr) (E:XK) (t:TA):TS:=fun _ σ H=>t σ H fun vs H1=>vs.length<=sizeLine/\E (.ref C) none H1
section
variable {X:Cx} {x:Str} {np cpos pos:Pos} {e0:Expr} {es:List Expr} {t:TA} {C:Addr} {E:XK}
theorem A3 (q:Hk X.K C) (hc:X.calm=true) (hR:MT X E) (hg:Gl X x) (hm:X.mg x=some (.ref C)) (ha:PA X (e0::es) t) (hdb:(x == ("__debug__":Str))=false:=by decide)
   (he:starEach (e0::es) X.env=(false,eval e0 X.env)::starEach es X.env:=by rfl) (hpl:(backTo cpos (starEach es X.env)).any (·.1)=false:=by rfl):PS X (.Raise (some (.Call (.Name x np) (e0::es) [] cpos)) none pos) (MP C E t):=by
 intro pins s σ H D I h;obtain ⟨nm,qn,N,bs,bm,hdct,sn,sub,ab,col,dd,k0,k1,k2,k3,k5,ho,z5,z6,z4⟩:=q;have B:=I.mod.kin;have T0:=PySem.W.tail_of_in B z4;have N0:X.base.Ns N (X.base.nsMap N):=.of_isNs (PySem.W.isNs_of_in B z5);have hp:(backTo cpos (starEach (e0::es) X.env)).any (·.1)=false:=by
   rw [he];show (false || (backTo cpos (starEach es X.env)).any (·.1))=false;rw [hpl]
   rfl
 refine wpAny_Raise_call_subT (C:=C) (nm:=nm) (q:=qn) (N:=N) (bs:=bs) (bm:=bm) (hdct:=hdct) (sn:=sn) (sub:=sub) (ab:=ab) (col:=col) (dd:=dd) (k0:=k0) (k1:=k1) (k2:=k2) (k3:=k3) (k5:=k5) PySem.F.excBase_ValueError
   (T0.hasType (by decide +kernel)) (I.ok.hd hc) hp (PySem.W.nsMap_none_of_in B z5 z6) (y6 I hg hm ⟨rfl,?_⟩ hdb)
 have g:=ha cpos pins s σ H _ I h;rw [he] at g ⊢;refine Calls.evalArgs_plain (thn g fun us s1 ⟨vs,H1,I1,r1,q1⟩=>⟨rfl,by show us.length<=_;rw [<- r1.length];exact q1.1,I1.bk _ _ (B _ _ ho),N0.keeps I1.bk,T0.keeps I1.bk,fun h' ea m=>?_⟩);obtain ⟨tt,m1,_,_⟩:=m.there;exact hR pins σ H1 s1 ea (.ref C) none h' s1.toks I1 m.keeps m.new ⟨_,_,m1,rfl,rfl,rfl,rfl,rfl⟩ q1.2
end
end L2
namespace L2
open PySem PySem.Spec PyProof.Rows
def ExO (ea:Addr) (cls:Value) (od:Option Addr):HO:=.ext fun h=>∃ oe vs,h.get? ea=some oe/\oe.cls=cls/\oe.dict=od/\oe.data=.fields vs/\vs[2]?=some .none
abbrev TH:=Ends->St->Value->Option Addr->Hp->Prop
def Ends.less (D:Ends) (i:Nat):Ends:={ nx:=fun σ H=>D.nx (σ.set i none) H,rt:=D.rt,bk:=fun σ H=>D.bk (σ.set i none) H,ct:=fun σ H=>D.ct (σ.set i none) H }
def UM (K:PySem.W.Frag) (C':Addr) (i:Nat) (ts:TS) (tr:TH):TH:=fun D σ cls od H=>∃ C b,cls=.ref C/\PySem.W.mroIn K C (.ref C')=some b /\
 if b=true then ∀ ea,H ea=none->ts (D.less i) (σ.set i (some (.ref ea))) (upd H ea (ExO ea cls od)) else tr D σ cls od H
section
variable {X:Cx} {x n:Str} {np pos:Pos} {i:Nat} {C':Addr} {b0:Stmt} {suite:List Stmt} {rest:List ExceptHandler} {ts:TS} {tr:TH}
def U0 (tb:(St->XK)->TS) (th:TH):TS:=fun D σ H=>tb (fun σ' cls od H'=>th D σ' cls od H') D σ H
end
end L2
namespace L2
open PySem PySem.Spec PyProof.Rows
def sQ (cells:List (Str × Addr)):List (Str × NameKind)->List (Str × Addr)->List (Str × Addr)
 | [],acc=>acc
 | (n,k)::r,acc=>if k == .free then sQ cells r ((n,(cells.lookup n).getD 0)::acc) else sQ cells r acc
theorem KL {scope:Scope} {env:Env} (h:∀ y∈scope.names,y.2=.free->(env.cells.lookup y.1).isSome=true):closureFor scope env=pure (sQ env.cells scope.names []):=by
 have key:∀ (l:List (Str × NameKind)) (acc:List (Str × Addr)),(∀ y∈l,y.2=.free->(env.cells.lookup y.1).isSome=true) ->
     (forIn l acc fun (y:Str × NameKind) (c:List (Str × Addr))=>(if y.2 == NameKind.free then do let a <- cellOf env y.1;pure (ForInStep.yield ((y.1,a)::c)) else pure (ForInStep.yield c):Sem (ForInStep (List (Str × Addr)))))=(pure (sQ env.cells l acc):Sem (List (Str × Addr))):=by
   intro l
   induction l with
   | nil=>intro acc _;rfl
   | cons y l ih =>
     obtain ⟨n,k⟩:=y;intro acc hh;have h1:=hh (n,k) List.mem_cons_self;have h2:∀ y∈l,y.2=.free->(env.cells.lookup y.1).isSome=true:=fun y hy=>hh y (List.mem_cons_of_mem _ hy);rw [List.forIn_cons];unfold sQ;cases q:k == NameKind.free with
     | false =>
       simp only [Bool.false_eq_true,if_false,pure_bind];exact ih acc h2
     | true =>
       obtain ⟨c,hc⟩:=Option.isSome_iff_exists.mp (h1 (by simpa using q));dsimp only at hc;simp only [if_true,cellOf,hc,pure_bind,Option.getD_some];exact ih _ h2
 have:=key scope.names [] h;unfold closureFor;simp only [bind_pure];exact this
theorem Bc {cells:List (Str × Addr)} {x:Str} {c:Addr}:∀ {l:List (Str × NameKind)} {acc:List (Str × Addr)},(∀ y∈l,y.2=.free->(cells.lookup y.1).isSome=true)->(∀ x c,acc.lookup x=some c->cells.lookup x=some c)->(sQ cells l acc).lookup x=some c->cells.lookup x=some c
 | [],acc,_,h2,h3=>h2 x c h3
 | (n,k)::r,acc,h1,h2,h3=>by
   have h1':∀ y∈r,y.2=.free->(cells.lookup y.1).isSome=true:=fun y hy=>h1 y (List.mem_cons_of_mem _ hy);unfold sQ at h3;cases q:k == NameKind.free with
   | false =>
     rw [q] at h3;exact Bc h1' h2 (by simpa using h3)
   | true =>
     rw [q] at h3;simp only [if_true] at h3;obtain ⟨a,ha⟩:=Option.isSome_iff_exists.mp (h1 (n,k) List.mem_cons_self (by simpa using q));dsimp only at ha;rw [ha] at h3;refine Bc h1' (fun y d hy=>?_) h3;rw [List.lookup_cons] at hy;cases z:y == n with
     | true =>
       rw [z] at hy;cases hy;rw [eq_of_beq z];exact ha
     | false =>
       rw [z] at hy;exact h2 y d hy
theorem A5 {cells:List (Str × Addr)} {x:Str}:∀ {l:List (Str × NameKind)} {acc:List (Str × Addr)},((∃ c,acc.lookup x=some c)\/(x,NameKind.free)∈l)->∃ c,(sQ cells l acc).lookup x=some c
 | [],acc,h=>by
   rcases h with h|h
   . exact h
   . cases h
 | (n,k)::r,acc,h=>by
   unfold sQ;cases q:k == NameKind.free with
   | false =>
     simp only [Bool.false_eq_true,if_false];refine A5 ?_;rcases h with h|h
     . exact .inl h
     . rcases List.mem_cons.mp h with z|z
       . cases z;simp at q
       . exact .inr z
   | true =>
     simp only [if_true];refine A5 ?_;by_cases z:x=n
     . subst z;exact .inl ⟨(cells.lookup x).getD 0,by rw [List.lookup_cons];simp⟩
     . rcases h with ⟨c,h⟩|h
       . refine .inl ⟨c,?_⟩;rw [List.lookup_cons];have:(x == n)=false:=(by simpa using z);rw [this];exact h
       . rcases List.mem_cons.mp h with y|y
         . cases y;exact absurd rfl z
         . exact .inr y
theorem ow {env:Env} {x:Str} {k:NameKind}:∀ {l:List (Str × NameKind)},l.lookup x=some k ->
   (l.map fun (n,k)=>if (k == NameKind.free && env.scope.kind == .function && env.kindOf n == some .cell) then (n,NameKind.cell) else (n,k)).lookup x=some (if (k == NameKind.free && env.scope.kind == .function && env.kindOf x == some .cell) then NameKind.cell else k)
 | [],h=>by simp at h
 | (n,j)::r,h=>by
   have ih:=@ow env x k r;rw [List.map_cons];rw [List.lookup_cons] at h;cases z:x == n with
   | true =>
     rw [z] at h;cases h;have e:=eq_of_beq z;subst e;by_cases q:(k == NameKind.free && env.scope.kind == .function && env.kindOf x == some .cell)=true
     . simp only [q,if_true,List.lookup_cons,z]
     . simp only [q,if_false,List.lookup_cons,z,Bool.false_eq_true]
   | false =>
     rw [z] at h;dsimp only;by_cases q:(j == NameKind.free && env.scope.kind == .function && env.kindOf n == some .cell)=true
     . rw [if_pos q,List.lookup_cons,z];exact ih h
     . rw [if_neg q,List.lookup_cons,z];exact ih h
theorem gr {X:Cx} {Nc:List Str} {scope:Scope} (own:Nat) (js:List Nat) (hc:∀ y∈scope.names,y.2≠.cell) (hk:scope.kind=.function) (hn:∀ y∈scope.names,y.2=.local->scope.names.lookup y.1=some .local) (hl:Nc.length=own+js.length)
   (hf:∀ y∈scope.names,y.2=.free->X.env.scope.names.lookup y.1=some .cell) (hX:X.env.scope.kind=.function) (hcell:∀ x,X.env.scope.names.lookup x=some .cell->∃ c,X.env.cells.lookup x=some c)
   (hU:∀ i,i<js.length->∃ x j,Nc[own+i]?=some x/\js[i]?=some j/\X.N[j]?=some x/\scope.names.lookup x=some .free):CompTxt X Nc own js scope (sQ X.env.cells scope.names []):=by
 have hs:∀ y∈scope.names,y.2=.free->(X.env.cells.lookup y.1).isSome=true:=fun y hy e=>by
   obtain ⟨c,q⟩:=hcell _ (hf y hy e);rw [q]
   rfl
 have free_cell:∀ x,scope.names.lookup x=some .free->X.env.scope.names.lookup x=some .cell:=fun x h=>hf (x,.free) (PySem.mem_of_lookup h) rfl;refine ⟨KL hs,hk,hc,hn,fun x c h=>Bc hs (fun x c z=>by simp at z) h,fun x h=>?_,hl,fun i x h=>?_⟩
 . cases q:scope.names.lookup x with
   | none =>
     exfalso
     have:(relabel scope X.env).names.lookup x=none:=by
       unfold relabel;dsimp only
       revert q
       generalize scope.names=l
       induction l with
       | nil=>intro _;rfl
       | cons y l ih =>
         obtain ⟨n,k⟩:=y;intro q;rw [List.lookup_cons] at q;cases z:x == n with
         | true=>rw [z] at q;cases q
         | false =>
           rw [z] at q;rw [List.map_cons];dsimp only;by_cases w:(k == NameKind.free && X.env.scope.kind == .function && X.env.kindOf n == some .cell)=true
           . rw [if_pos w,List.lookup_cons,z];exact ih q
           . rw [if_neg w,List.lookup_cons,z];exact ih q
     rw [this] at h;rcases h with h|h <;> cases h
   | some k =>
     have r:(relabel scope X.env).names.lookup x=some _:=ow (env:=X.env) q;cases k with
     | free=>exact A5 (.inr (PySem.mem_of_lookup q))
     | cell=>exact absurd rfl (hc _ (PySem.mem_of_lookup q))
     | _ =>
       rw [r] at h;simp at h
 . have hi:i<js.length:=by
     have:=(List.getElem?_eq_some_iff.mp h).1;omega
   obtain ⟨y,j,e1,e2,e3,e4⟩:=hU i hi;rw [h] at e1;cases e1;have fc:=free_cell x e4;refine ⟨j,e2,e3,fc,?_⟩;have r:(relabel scope X.env).names.lookup x=some _:=ow (env:=X.env) e4;rw [r];have:X.env.kindOf x=some .cell:=fc;rw [this,hX]
   rfl
end L2
namespace L2
open PySem PySem.Spec PyProof.Rows
theorem Kv:∀ {ns:List Int} {us:List Value},Vals (ns.map V.int) us->IntsAre us ns
 | [],_,h=>by cases h;exact .nil
 | n::ns,_,h=>by
   cases h with
   | cons r t =>
     obtain ⟨k,rfl⟩:=(show ∃ t,_=Value.int n t from r);exact .cons n k (Kv t)
theorem JY:∀ {ns:List Int} {us:List Value},IntsAre us ns->Vals (ns.map V.int) us
 | _,_,.nil=>.nil
 | _,_,.cons n t r=>.cons ⟨t,rfl⟩ (JY r)
section
variable {X:Cx}
theorem IM:j9 X (.builtin "sorted") (fun xs H Q=>∃ (p:Addr) (ns:List Int),xs=[.ref p]/\SqL X.K H p (ns.map V.int)/\ns.length<64/\∀ (l:Addr) (zs:List Int),H l=none->zs.Perm ns->zs.Pairwise (·<=·)->Q (.ref l) (upd H l (.lst (zs.map V.int)))):=by
 intro pins s σ H xs us Q I r h;obtain ⟨p,ns,rfl,hp,h64,q⟩:=h;obtain ⟨u,rfl,ru⟩:=qo r;cases ru;obtain ⟨its,rv,pl,hz⟩:=I.list hp;have hi:=Kv rv;have e1:=IntsAre.length hi;refine sorted_ints pl.isList hi (by omega) fun out zs a1 a2 a3=>?_;obtain ⟨e,he⟩:=sortedAll_at s.heap its out;have hn:H (s.heap.objs.size+1)=none:=I.hok.fresh (Nat.le_succ _);have ln:zs.length=ns.length:=a2.length_eq;refine ⟨.ref (s.heap.objs.size+1),_,I.laid (a:=s.heap.objs.size+1) (o:=.lst (zs.map V.int)) (t':=s.toks) (fun b o e=>sortedAll_old e) (Nat.le_succ _) ⟨?_,out.toList,e,JY a1,?_⟩,rfl,q _ zs hn a2 a3⟩
 . rw [List.length_map,ln];exact aJ (by omega)
 . exact he
end
section
variable {P:Program} {w:World} {K:PySem.W.Frag} {mg:Str->Option Value} {base:Heap}
theorem Fun.okX {x qual:Str} {st:Stmt} {f:Addr} {fd:FuncData} {N ps:List Str} {k:Nat} {sp:Sp} (F:Fun K x qual st f fd) (S:FnScope N ps (aa st)) (len:∀ vs H Q E,sp vs H Q E->vs.length=ps.length)
   (hbody:∀ (cdv:Value) (A:Around) (outer:List Env) (s:Shared) (H:Hp) (vs:List V) (Q:VK) (E:XK),Room k (A.deeper (envOfC qual (aa st) s.heap.objs.size f cdv))->sp vs H Q E ->
     ∃ t,PSs (pE (CXe P w) P w K mg base N qual (aa st) f cdv A outer s H E) (az st) t/\t { nx:=fun _ H'=>Q .non H',rt:=Q } (start N vs) H):FnOk P w K mg base (CXe P w) (k+1) f fd ps sp:=by
 obtain ⟨oc,od,kV,doc,pm,an,cdv,ct,osl,rfl,lk,hcd⟩:=F.ex;exact RT lk hcd S len fun A outer s H vs Q E hr hsp=>hbody cdv A outer s H vs Q E hr hsp
end
theorem Er {C:Addr} {E:XK} {t:TA} {D:Ends} {σ:St} {H:Hp}:MP C E t D σ H=t σ H fun vs H1=>vs.length<=sizeLine/\E (.ref C) none H1:=rfl
theorem Kd {tb:(St->XK)->TS} {th:TH} {D:Ends} {σ:St} {H:Hp}:U0 tb th D σ H=tb (fun σ' cls od H'=>th D σ' cls od H') D σ H:=rfl
theorem GD {K:PySem.W.Frag} {C':Addr} {i:Nat} {ts:TS} {tr:TH} {D:Ends} {σ:St} {cls:Value} {od:Option Addr} {H:Hp}:UM K C' i ts tr D σ cls od H=∃ C b,cls=.ref C/\PySem.W.mroIn K C (.ref C')=some b /\
 if b=true then ∀ ea,H ea=none->ts (D.less i) (σ.set i (some (.ref ea))) (upd H ea (ExO ea cls od)) else tr D σ cls od H:=rfl
theorem Same.put {H H':Hp} {l:Addr} (e:Same H H') (n:H l=none) (o:HO):Same H (upd H' l o):=fun b u h=>by rw [ao (ay h n)];exact e b u h
end L2
namespace L2
open PySem PySem.Spec PyProof.Rows
theorem OX {M:Model} {A:Around} {E:Value->Shared->Prop} {s:Shared} {env:Env} {x:Str} {px:Pos} {v:Value} {Q:Unit->Shared->Prop} (h:wpAny M A (storeName env x v) Q E s):wpAny M A (assign (.Name x px) env v) Q E s:=by
 show wpAny M A (do standAt px;bindName env x v) Q E s;exact wpAny_bind (wpAny_standAt (wpAny_bindName h))
section
variable {X:Cx} {Nc:List Str} {own:Nat} {js:List Nat} {scope:Scope} {cl:List (Str × Addr)}
theorem Bl {i:Nat} {x:Str} {px pos:Pos} {elt target iter:Expr} {ifs:List Expr} {cpos:Pos} {wi:TI} {g:TG} {tc:TT} {te:TE} (hN:X.N.Nodup) (hxi:X.N[i]?=some x) (hxl:X.env.scope.names.lookup x=some .local) (hc:X.calm=true) (T:CompTxt X Nc own js scope cl)
   (hi:PI X target iter wi) (hg:∀ C s₂ H₁ fp,PG (X.comp Nc scope cl C s₂ H₁ fp) target g) (ht:∀ C s₂ H₁ fp,PTs (X.comp Nc scope cl C s₂ H₁ fp) ifs tc)
   (he:∀ C s₂ H₁ fp,PE (X.comp Nc scope cl C s₂ H₁ fp) elt te) (hs:∀ x,foldedSetIterable iter X.env x=pure x:=by intro _;rfl)
   (hsw:swapsWith (.ListComp elt [⟨target,iter,ifs,0⟩] scope cpos) (some (.Name x px)) pos.line X.env=pure true:=by rfl) :
   PS X (.Assign [.Name x px] (.ListComp elt [⟨target,iter,ifs,0⟩] scope cpos) pos) (Hq (Mx own js wi g tc te) (rO i)):=by
 intro pins s σ H D I h;rw [exec_Assign_Name_used _ _ _ _ hsw];refine wpAny_bind (wpAny_standAt (wpAny_bind ?_));rw [arm_evalThenUse_ListComp];refine wpAny_bind ?_;refine wpAny_comprehension_free (use:=some (assign (.Name x px) X.env)) rfl hs T.clos T.kind T.names (thn (hi pins s σ H _ I h) fun v s1 h1=>thn h1 fun itv s2 h2=>?_);obtain ⟨it,fp,tn,J,H1,rfl,I1,Tn,st,f1,R⟩:=h2;have hfp:∀ b∈fp,b<s2.heap.objs.size:=fun b hb=>let ⟨o,e,_⟩:=Tn.obj _ _ st b hb;Heap.lt_size e;refine wpAny_newObj_type (wpAny_newFunctionEnv T.nocell (by intro y hy;simp at hy) (fun h₁ hns₁ hsb₁=>?_) T.kind);dsimp only at hns₁ hsb₁ ⊢;generalize hH2:s2.heap.push { cls:=.type "list",dict:=none,data:=.seq ([]:List Value).toArray }=H2 at hns₁ hsb₁ ⊢;have hC:H2.objs.size=s2.heap.objs.size+1:=by rw [<- hH2,Heap.size_push]
 have hDC:s2.heap.objs.size≠H2.objs.size:=by rw [hC];exact Nat.ne_of_lt (Nat.lt_succ_self _)
 have hCle:s2.heap.objs.size<=H2.objs.size:=by rw [hC];exact Nat.le_succ _
 have below:∀ b,b<s2.heap.objs.size->b≠H2.objs.size:=fun b hb=>by rw [hC];exact Nat.ne_of_lt (Nat.lt_succ_of_lt hb)
 have old:∀ b o,s2.heap.get? b=some o->h₁.get? b=some o:=fun b o e=>hsb₁.extBut b o (below b (Heap.lt_size e)) (Heap.get?_push_of_some _ (hH2 ▸ Heap.get?_push_of_some _ e));have hacc:∃ n,h₁.get? s2.heap.objs.size=some { cls:=.type "list",data:=.seq ([]:List Value).toArray n }:=⟨_,hsb₁.extBut _ _ hDC (Heap.get?_push_of_some _ (hH2 ▸ Heap.get?_push_size _ rfl))⟩;have st₁:tn 0 h₁:=Tn.keep _ _ _ st fun b _ o e=>old b o e;obtain ⟨W,⟨m0,w0⟩,turn⟩:=R s2.heap.objs.size I1.fresh;have Ic:=FE (t:=s2.toks+([]:List (Str × Value)).length) T I1 hCle (Nat.le_refl _) hDC f1 hfp old hns₁ hacc;generalize hXc:X.comp Nc scope cl H2.objs.size s2 H1 fp=Xc at Ic;have stat:∀ {H':Hp},(∀ b∈fp,H' b=none)->∀ b∈fp,ly Xc [] H' b:=fun {H'} hn b hb=>by
   subst hXc;exact ⟨hn b hb,below b (hfp b hb),(C8 T I1 hCle f1 hfp).exfs b hb,.inl hb,fun x c e=>(f1 b hb).2.2.2.2.1 x c (T.cells x c e),fun p hp=>by cases hp⟩
 have fr0:∀ b∈fp,upd H1 s2.heap.objs.size (.lst []) b=none:=fun b hb=>by
   rw [ao (Nat.ne_of_lt (hfp b hb))];exact (f1 b hb).1
 have calmc:Xc.calm=true:=by subst hXc;exact hc
 have loop:∀ s₃:Shared,s₃={ s2 with heap:=h₁,toks:=s2.toks+([]:List (Str × Value)).length } ->
     codeAny (model X.prog X.w) X.A (.compLoop (.ListComp elt [⟨target,iter,ifs,0⟩] scope cpos) 0 (.ref it) (.ref s2.heap.objs.size) (compEnvC scope cl H2.objs.size X.env))
       (compPost (model X.prog X.w) X.A X.xe (some (assign (.Name x px) X.env)) (fun _ s'=>wpAny (model X.prog X.w) X.A (pure ()) (fun _ s''=>wpAny (model X.prog X.w) X.A (pure Flow.next) (SP X pins D) X.xe s'') X.xe s') (.ref s2.heap.objs.size) H2.objs.size) s₃:=by
   rintro s₃ rfl;refine z9 (fun n s'=>∃ i ys σ' H',Inv Xc [] σ' H' s'/\tn i s'.heap/\(∀ b∈fp,H' b=none)/\W i n ys σ' H') ?_ m0 ⟨0,[],_,_,Ic,st₁,fr0,w0⟩;rintro n s3 ⟨i,ys,σ3,H3,I3,st3,fr3,w3⟩;rcases turn i n ys σ3 H3 w3 with ⟨stop,q⟩|⟨go,step⟩
   . subst hXc;refine thn (Tn.done (X.comp Nc scope cl H2.objs.size s2 H1 fp) rfl rfl rfl hc i [] s3 σ3 H3 _ I3 (stat fr3) st3 stop) fun r s4 ⟨hr,I4⟩=>?_;subst hr;obtain ⟨m4,hn4,_⟩:=id I4.loc;have J:=D9 I1 hCle f1 I4 (h':=s4.heap) (Heap.SameBut.refl _ _);have cl0:H2.objs.size≠X.env.locals:=Nat.ne_of_gt (Nat.lt_of_lt_of_le I1.lt hCle);have cy:X.s₀.heap.objs.size<=H2.objs.size:=Nat.le_trans I1.sz hCle;have cc:∀ y c,X.env.cells.lookup y=some c->c≠H2.objs.size:=fun y c e=>by
       obtain ⟨v',o',ho',_⟩:=I1.cell y c e;exact Nat.ne_of_lt (Nat.lt_of_lt_of_le (Heap.lt_size ho') hCle)
     have cp:∀ p∈X.pn++pins,p.1≠H2.objs.size:=fun p hp=>by
       obtain ⟨ho',_⟩:=I1.pin p hp;exact Nat.ne_of_lt (Nat.lt_of_lt_of_le (Heap.lt_size ho') hCle)
     refine OX (Es (v:=.ref s2.heap.objs.size) J hN hxi (.inl hxl) rfl (fun s5 I5 ⟨ad,sb,had⟩=>?_) (.inr hxl));have nad:H2.objs.size≠ad:=by
       rcases had with rfl|had
       . exact cl0
       . exact (cc _ _ had).symm
     obtain ⟨oo,es,ep,e1,e2⟩:=hn4;refine ⟨m4,⟨oo,es,ep,(sb.2 _ nad).trans e1,e2⟩,fun h' hs'=>wpAny_pure (wpAny_pure ⟨_,H3,?_,q⟩)⟩;exact I5.turned (it:=H2.objs.size) (t':=s5.toks) (fun b o n e=>hs'.extBut b o n e) I4.free cl0 (.inr cy) cc cp
   . subst hXc;refine thn (Tn.item (X.comp Nc scope cl H2.objs.size s2 H1 fp) rfl rfl rfl hc i [] s3 σ3 H3 _ I3 (stat fr3) st3 go) fun r s4 ⟨u,hr,h4⟩=>?_;subst hr;refine thn h4 fun _ s5 ⟨x,H5,I5,r5,y5,st5,fr5⟩=>?_;have I5':=I5.pinned (stat fr5) (Tn.obj _ _ st5);have back:∀ {σ7:St} {H7:Hp} {s7:Shared},Inv (X.comp Nc scope cl H2.objs.size s2 H1 fp) ([]++uv fp s5.heap) σ7 H7 s7->Inv (X.comp Nc scope cl H2.objs.size s2 H1 fp) [] σ7 H7 s7/\tn (i+1) s7.heap/\∀ b∈fp,H7 b=none:=fun {σ7 H7 s7} I7=>by
       refine ⟨I7.unpinned,Tn.keep _ _ _ st5 fun b hb o e=>(I7.pin (b,o) (List.mem_append_right _ (List.mem_append_right _ (kg hb e)))).1,fun b hb=>?_⟩;obtain ⟨o,e,d⟩:=Tn.obj _ _ st5 b hb;exact (I7.pin (b,o) (List.mem_append_right _ (List.mem_append_right _ (kg hb e)))).2.1
     refine thn (hg _ _ _ _ _ s5 σ3 H5 x u _ I5' r5 (step x H5 y5)) fun _ s6 ⟨σ6,H6,I6,q6⟩=>?_;refine Dd (ht _ _ _ _ _ s6 σ6 H6 _ I6 q6) fun ok s7 H7 I7 q7=>?_;cases ok with
     | false =>
       rw [if_neg Bool.false_ne_true] at q7 ⊢;obtain ⟨m',hm,w7⟩:=q7;obtain ⟨J1,J2,J3⟩:=back I7;exact ⟨m',hm,i+1,ys,σ6,H7,J1,J2,J3,w7⟩
     | true =>
       rw [if_pos rfl] at q7 ⊢;refine bx (he _ _ _ _ _ s7 σ6 H7 _ I7 q7) fun y s8 yv H8 I8 r8 ⟨hp8,hl8,m',hm,w8⟩=>?_;refine thn (cG _ s8 σ6 H8 (.ref s2.heap.objs.size) [yv] _ [y] (fun v' H'=>W (i+1) m' (ys++[yv]) σ6 H') I8 rfl (.cons r8 .nil) ⟨_,ys,yv,rfl,rfl,hp8,hl8,w8⟩) fun v9 s9 ⟨_,H9,I9,_,w9⟩=>?_;obtain ⟨J1,J2,J3⟩:=back I9;exact ⟨m',hm,i+1,ys++[yv],σ6,H9,J1,J2,J3,w9⟩
 exact codeAny_compStart_list (loop _ rfl) (Tn.self _ 0 _ _ _ st₁ (loop _ rfl))
end
end L2
namespace L2
open PySem PySem.Spec PyProof.Rows
theorem yh {K:PySem.W.Frag} {H:Hp}:∀ ns:List Int,DeepAll K H (ns.map V.int) (ns.map PyData.int)
 | []=>.nil
 | n::ns=>.cons (.int n) (yh ns)
theorem Nl {K:PySem.W.Frag} {H:Hp} {l:Addr} {ns:List Int} (h:H l=some (.lst (ns.map V.int))):Deep K H (.ref l) (.list (ns.map PyData.int)):=.lst (SqL.of h) (yh ns)
theorem wR:∀ ns:List Int,PyData.depthAll (ns.map PyData.int)<=1
 | []=>by simp [PyData.depthAll]
 | n::ns=>by
   simp only [List.map_cons,PyData.depthAll];have:=wR ns;have:(PyData.int n).depth<=1:=by simp [PyData.depth]
   omega
theorem LC (ns:List Int):(PyData.list (ns.map PyData.int)).depth<=40:=by
 simp only [PyData.depth];have:=wR ns;omega
end L2
namespace Pb
open L2 PySem
def front (r:Int) (par:Int->Int) (p:Int):V:=if p=r then .non else .int (par p)
def aK (m:Int) (rs:List Road) (fv:V) (p:Int):List Int:=(fU m rs p).filter fun v=>decide (V.int v≠fv)
variable {m:Int} {rs:List Road} {r:Int} {par:Int->Int} {dep:Int->Nat}
theorem Rooted.ne (R:Rooted m rs r par dep) {v:Int} (h0:0<=v) (h1:v<m) (hr:v≠r):par v≠v:=fun z=>by
 have:=(R.up v h0 h1 hr).2.2;rw [z] at this;omega
theorem ba (g:Good m rs) (R:Rooted m rs r par dep) {p v:Int} (p0:0<=p) (p1:p<m):v∈aK m rs (front r par p) p↔(0<=v/\v<m)/\v≠r/\par v=p:=by
 unfold aK;rw [List.mem_filter,GQ g,decide_eq_true_eq]
 constructor
 . rintro ⟨ad,hf⟩;obtain ⟨_,hv,_⟩:=g.adj ad;refine ⟨hv,?_⟩;obtain ⟨x,hx,j⟩:=ad;have key:∀ u w:Int,(u≠r/\par u=w)\/(w≠r/\par w=u)->u=p->w=v->v≠r/\par v=p:=fun u w h e1 e2=>by
     subst e1 e2;rcases h with h|h
     . exfalso
       apply hf;unfold front;rw [if_neg h.1,h.2]
     . exact h
   rcases j with ⟨a,b⟩|⟨a,b⟩
   . exact key x.a x.b (R.road x hx) a b
   . exact key x.b x.a (R.road x hx).symm a b
 . rintro ⟨hv,hr,hp⟩;have u:=R.up v hv.1 hv.2 hr;rw [hp] at u;refine ⟨?_,fun z=>?_⟩
   . obtain ⟨x,hx,j⟩:=u.2.1;exact ⟨x,hx,j.elim (fun q=>.inr ⟨q.2,q.1⟩) (fun q=>.inl ⟨q.2,q.1⟩)⟩
   . unfold front at z;by_cases c:p=r
     . rw [if_pos c] at z;cases z
     . rw [if_neg c] at z;have e:v=par p:=(by injection z);have w:=(R.up p p0 p1 c).2.2;have w2:=u.2.2;rw [<- e] at w;omega
theorem vE {fv:V} {p:Int}:(aK m rs fv p).Nodup:=(Bw m rs p).filter _
def nl (m:Int) (par:Int->Int) (ks:List Int):List V:=(below m.toNat).map fun v=>if v∈ks then .int (par v) else .non
def mB (m r:Int) (par:Int->Int):List V:=(below m.toNat).map (front r par)
theorem si {ks:List Int}:(nl m par ks).length=m.toNat:=by unfold nl;rw [List.length_map,aY]
theorem fK {n i:Nat} (h:i<n):(below n)[i]?=some (i:Int):=by unfold below;rw [List.getElem?_map,List.getElem?_range h];rfl
theorem MY {ks:List Int} {v:Int} (h0:0<=v) (h1:v<m):(nl m par ks)[v.toNat]?=some (if v∈ks then .int (par v) else .non):=by
 unfold nl;rw [List.getElem?_map,fK (by omega)];show some (if ((v.toNat:Nat):Int)∈ks then V.int (par ((v.toNat:Nat):Int)) else V.non)=_;rw [Int.toNat_of_nonneg h0]
theorem UB {ks:List Int} {v:Int} (h0:0<=v) (h1:v<m):(nl m par ks).set v.toNat (.int (par v))=nl m par (ks++[v]):=by
 refine List.ext_getElem? fun i=>?_;rw [List.getElem?_set];by_cases c:i<m.toNat
 . have e:∀ l:List Int,(nl m par l)[i]?=some (if (i:Int)∈l then .int (par (i:Int)) else .non):=fun l=>by
     have:=MY (par:=par) (ks:=l) (v:=(i:Int)) (m:=m) (by omega) (by omega)
     rwa [Int.toNat_natCast] at this
   rw [e,si];by_cases z:v.toNat=i
   . have z2:v=(i:Int):=(by omega);rw [if_pos z,if_pos (by omega),e,if_pos (by rw [z2];simp),<- z2]
   . rw [if_neg z,e];have z2:¬ ((i:Int)=v):=(by omega);simp [z2]
 . have e:∀ l:List Int,(nl m par l)[i]?=none:=fun l=>List.getElem?_eq_none (by rw [si];omega);rw [e,e,si];by_cases z:v.toNat=i
   . omega
   . rw [if_neg z]
structure AInv (m:Int) (rs:List Road) (r:Int) (par:Int->Int) (ks ws:List Int):Prop where
 nd:ks.Nodup
 rng:∀ k∈ks,0<=k/\k<m
 nr:r ∉ ks
 sub:∀ w∈ws,w=r\/w∈ks
 wnd:ws.Nodup
 ok:∀ v∈ks,par v ∉ ws/\(par v=r\/par v∈ks)
 dn:∀ v,0<=v->v<m->v≠r->(par v=r\/par v∈ks)->par v ∉ ws->v∈ks
theorem AInv.start:AInv m rs r par [] [r] where
 nd:=List.nodup_nil
 rng:=fun _ h=>by cases h
 nr:=fun h=>by cases h
 sub:=fun w h=>.inl (List.mem_singleton.mp h)
 wnd:=by simp
 ok:=fun _ h=>by cases h
 dn:=fun v _ _ _ h n=>by
   rcases h with h|h
   . exact absurd (by rw [h];simp) n
   . cases h
theorem AInv.at_ (J:AInv m rs r par ks ws) (r0:0<=r) (r1:r<m) {p:Int} (hp:p∈ws):0<=p/\p<m:=by
 rcases J.sub p hp with h|h
 . rw [h];exact ⟨r0,r1⟩
 . exact J.rng p h
theorem AInv.front (J:AInv m rs r par ks ws) {p:Int} (hp:p∈ws):(if p∈ks then V.int (par p) else V.non)=front r par p:=by
 unfold Pb.front;by_cases c:p=r
 . rw [if_pos c,if_neg (by rw [c];exact J.nr)]
 . rw [if_neg c,if_pos ((J.sub p hp).resolve_left c)]
theorem AInv.step (g:Good m rs) (R:Rooted m rs r par dep) (r0:0<=r) (r1:r<m) {ks ws ws':List Int} {p:Int} (J:AInv m rs r par ks ws) (e:ws.Perm (p::ws')):AInv m rs r par (ks++aK m rs (Pb.front r par p) p) (ws'++aK m rs (Pb.front r par p) p):=by
 have hp:p∈ws:=e.mem_iff.mpr List.mem_cons_self;have pr:=J.at_ r0 r1 hp;have mk:∀ v,v∈aK m rs (Pb.front r par p) p↔(0<=v/\v<m)/\v≠r/\par v=p:=fun v=>ba g R pr.1 pr.2;have nk:(aK m rs (Pb.front r par p) p).Nodup:=vE;generalize aK m rs (Pb.front r par p) p=kk at mk nk ⊢;have dis:∀ v∈kk,v ∉ ks:=fun v hv z=>(J.ok v z).1 (by rw [((mk v).mp hv).2.2];exact hp);obtain ⟨n1,n2⟩:=List.nodup_cons.mp (e.nodup_iff.mp J.wnd);have sw:∀ w∈ws',w∈ws:=fun w hw=>e.mem_iff.mpr (List.mem_cons_of_mem _ hw);refine ⟨?_,?_,?_,?_,?_,?_,?_⟩
 . rw [List.nodup_append];exact ⟨J.nd,nk,fun a ha b hb z=>dis b hb (z ▸ ha)⟩
 . intro k hk;rcases List.mem_append.mp hk with h|h
   . exact J.rng k h
   . exact ((mk k).mp h).1
 . intro z;rcases List.mem_append.mp z with h|h
   . exact J.nr h
   . exact ((mk r).mp h).2.1 rfl
 . intro w hw;rcases List.mem_append.mp hw with h|h
   . exact (J.sub w (sw w h)).imp id (List.mem_append_left _)
   . exact .inr (List.mem_append_right _ h)
 . rw [List.nodup_append];refine ⟨n2,nk,fun a ha b hb z=>?_⟩;subst z;rcases J.sub a (sw a ha) with h|h
   . exact ((mk a).mp hb).2.1 h
   . exact dis a hb h
 . intro v hv;rcases List.mem_append.mp hv with h|h
   . obtain ⟨o1,o2⟩:=J.ok v h;refine ⟨fun z=>?_,o2.imp id (List.mem_append_left _)⟩;rcases List.mem_append.mp z with z|z
     . exact o1 (sw _ z)
     . rcases o2 with o|o
       . exact ((mk _).mp z).2.1 o
       . exact dis _ z o
   . obtain ⟨q1,q2,q3⟩:=(mk v).mp h;rw [q3];refine ⟨fun z=>?_,(J.sub p hp).imp id (List.mem_append_left _)⟩;rcases List.mem_append.mp z with z|z
     . exact n1 z
     . obtain ⟨w1,w2,w3⟩:=(mk p).mp z;exact R.ne w1.1 w1.2 w2 w3
 . intro v v0 v1 vr h n;have nk2:par v ∉ kk:=fun z=>n (List.mem_append_right _ z);have h':par v=r\/par v∈ks:=h.imp id fun z=>(List.mem_append.mp z).resolve_right nk2;by_cases c:par v=p
   . exact List.mem_append_right _ ((mk v).mpr ⟨⟨v0,v1⟩,vr,c⟩)
   . refine List.mem_append_left _ (J.dn v v0 v1 vr h' fun z=>?_);rcases List.mem_cons.mp (e.mem_iff.mp z) with z|z
     . exact c z
     . exact n (List.mem_append_left _ z)
theorem AInv.perm {ks ws ws2:List Int} (J:AInv m rs r par ks ws) (e:ws.Perm ws2):AInv m rs r par ks ws2 where
 nd:=J.nd
 rng:=J.rng
 nr:=J.nr
 sub:=fun w h=>J.sub w (e.mem_iff.mpr h)
 wnd:=e.nodup_iff.mp J.wnd
 ok:=fun v h=>⟨fun z=>(J.ok v h).1 (e.mem_iff.mpr z),(J.ok v h).2⟩
 dn:=fun v h0 h1 hr h n=>J.dn v h0 h1 hr h fun z=>n (e.mem_iff.mp z)
theorem AInv.all (R:Rooted m rs r par dep) {ks:List Int} (J:AInv m rs r par ks []):∀ v,0<=v->v<m->v≠r->v∈ks:=by
 have key:∀ n v,dep v=n->0<=v->v<m->v≠r->v∈ks:=by
   intro n
   induction n with
   | zero =>
     intro v e v0 v1 vr;have:=(R.up v v0 v1 vr).2.2;omega
   | succ n ih =>
     intro v e v0 v1 vr;have u:=R.up v v0 v1 vr;refine J.dn v v0 v1 vr ?_ (by simp);by_cases c:par v=r
     . exact .inl c
     . exact .inr (ih (par v) (by omega) u.1.1 u.1.2 c)
 exact fun v=>key _ v rfl
theorem AInv.done (R:Rooted m rs r par dep) {ks:List Int} (J:AInv m rs r par ks []):nl m par ks=mB m r par:=by
 unfold nl mB;refine List.map_congr_left fun v hv=>?_;have hv':0<=v/\v<m:=by
   unfold below at hv;obtain ⟨k,hk,rfl⟩:=List.mem_map.mp hv;have:=List.mem_range.mp hk;omega
 unfold Pb.front;by_cases c:v=r
 . rw [if_pos c,if_neg (by rw [c];exact J.nr)]
 . rw [if_neg c,if_pos (J.all R v hv'.1 hv'.2 c)]
theorem GP (n:Nat) (v:V):(List.replicate n [v]).flatten=List.replicate n v:=by
 induction n with
 | zero=>rfl
 | succ n ih=>rw [List.replicate_succ,List.flatten_cons,ih,List.replicate_succ];rfl
theorem Ur:nl m par []=List.replicate m.toNat V.non:=by
 unfold nl;refine List.ext_getElem? fun i=>?_;by_cases c:i<m.toNat
 . rw [List.getElem?_map,fK c,List.getElem?_replicate,if_pos c];simp
 . rw [List.getElem?_eq_none (by rw [List.length_map,aY];omega),List.getElem?_eq_none (by rw [List.length_replicate];omega)]
def jg (par:Int->Int):Nat->Int->List Int
 | 0,v=>[v]
 | n+1,v=>v::jg par n (par v)
theorem Rooted.pos (R:Rooted m rs r par dep) {v:Int} (h0:0<=v) (h1:v<m) (hr:v≠r):dep v=dep (par v)+1:=(R.up v h0 h1 hr).2.2.symm
theorem Co (R:Rooted m rs r par dep):∀ (n:Nat) (v:Int),dep v=n->0<=v->v<m->(jg par n v).Nodup/\(∀ x∈jg par n v,(0<=x/\x<m)/\dep x<=n)/\(jg par n v).length=n+1
 | 0,v,e,h0,h1=>⟨by unfold jg;simp,fun x hx=>by
     unfold jg at hx;rw [List.mem_singleton.mp hx];exact ⟨⟨h0,h1⟩,by omega⟩,rfl⟩
 | n+1,v,e,h0,h1=>by
   have hr:v≠r:=fun z=>by rw [z,R.root] at e;omega
   have u:=R.up v h0 h1 hr;obtain ⟨i1,i2,i3⟩:=Co R n (par v) (by omega) u.1.1 u.1.2;unfold jg;refine ⟨List.nodup_cons.mpr ⟨fun z=>?_,i1⟩,fun x hx=>?_,by rw [List.length_cons,i3]⟩
   . have:=(i2 v z).2;omega
   . rcases List.mem_cons.mp hx with rfl|hx
     . exact ⟨⟨h0,h1⟩,by omega⟩
     . exact ⟨(i2 x hx).1,by have:=(i2 x hx).2;omega⟩
theorem yw (R:Rooted m rs r par dep) {v:Int} (h0:0<=v) (h1:v<m):dep v+1<=m.toNat:=by
 obtain ⟨i1,i2,i3⟩:=Co R _ v rfl h0 h1;have:=cH (m:=m) (by omega) i1 fun x hx=>(i2 x hx).1;omega
theorem AN {v:Int} (h0:0<=v) (h1:v<m):(mB m r par)[v.toNat]?=some (front r par v):=by
 unfold mB;rw [List.getElem?_map,fK (by omega)];show some (front r par ((v.toNat:Nat):Int))=_;rw [Int.toNat_of_nonneg h0]
theorem mq (g:Good m rs) (R:Rooted m rs r par dep) {v:Int} (h0:0<=v) (h1:v<m) (hr:v≠r):∃ k,aZ rs v (par v)=some k/\2<=k/\k<=1000000:=by
 obtain ⟨x,hx,j⟩:=(R.up v h0 h1 hr).2.1;obtain ⟨i,hi⟩:=List.getElem?_of_mem hx;have ok:=g.ok x hx;rw [Eh g hi j];unfold eF;by_cases c:x.a=v/\x.b=par v
 . rw [if_pos c];exact ⟨_,rfl,ok.t0,ok.t1⟩
 . rw [if_neg c];have c2:x.a=par v/\x.b=v:=by
     rcases j with j|j
     . exact absurd j c
     . exact ⟨j.2,j.1⟩
   rw [if_pos c2];exact ⟨_,rfl,ok.u0,ok.u1⟩
def pJ (m:Int) (rs:List Road) (r:Int) (par:Int->Int):Nat->Int->List Int
 | 0,v=>[v]
 | n+1,v=>v::(aK m rs (front r par v) v).flatMap (pJ m rs r par n)
def bj (m:Int) (rs:List Road) (r:Int) (par:Int->Int) (dep:Int->Nat) (v:Int):List Int:=pJ m rs r par (m.toNat - 1 - dep v) v
theorem uJ {f h:Int->List Int}:∀ {l:List Int},(∀ x∈l,f x=h x)->l.flatMap f=l.flatMap h
 | [],_=>rfl
 | a::l,e=>by rw [List.flatMap_cons,List.flatMap_cons,e a List.mem_cons_self,uJ fun x hx=>e x (List.mem_cons_of_mem _ hx)]
theorem db (g:Good m rs) (R:Rooted m rs r par dep) {v:Int} (h0:0<=v) (h1:v<m):bj m rs r par dep v=v::(aK m rs (front r par v) v).flatMap (bj m rs r par dep):=by
 have mk:∀ u,u∈aK m rs (front r par v) v->(0<=u/\u<m)/\u≠r/\par u=v:=fun u=>(ba g R h0 h1).mp;have du:∀ u∈aK m rs (front r par v) v,dep u=dep v+1/\dep u+1<=m.toNat:=fun u hu=>by
   obtain ⟨w1,w2,w3⟩:=mk u hu;have:=R.pos w1.1 w1.2 w2;rw [w3] at this;exact ⟨this,yw R w1.1 w1.2⟩
 unfold bj;cases e:m.toNat - 1 - dep v with
 | zero =>
   have:aK m rs (front r par v) v=[]:=List.eq_nil_iff_forall_not_mem.mpr fun u hu=>by
     have:=du u hu;omega
   rw [this]
   rfl
 | succ n =>
   show v::(aK m rs (front r par v) v).flatMap (pJ m rs r par n)=_;rw [uJ fun u hu=>show pJ m rs r par n u=pJ m rs r par (m.toNat - 1 - dep u) u by rw [show m.toNat - 1 - dep u=n by have:=du u hu;omega]]
def up (par:Int->Int):Nat->Int->Int
 | 0,x=>x
 | k+1,x=>par (up par k x)
theorem B8 {f:Int->List Int}:∀ {l:List Int},l.Nodup->(∀ u∈l,(f u).Nodup)->(∀ u∈l,∀ w∈l,∀ x,x∈f u->x∈f w->u=w)->(l.flatMap f).Nodup
 | [],_,_,_=>by simp
 | a::l,n,h1,h2=>by
   obtain ⟨n1,n2⟩:=List.nodup_cons.mp n;rw [List.flatMap_cons,List.nodup_append];refine ⟨h1 a List.mem_cons_self,B8 n2 (fun u hu=>h1 u (List.mem_cons_of_mem _ hu)) (fun u hu w hw=>h2 u (List.mem_cons_of_mem _ hu) w (List.mem_cons_of_mem _ hw)),fun x hx y hy z=>?_⟩;subst z;obtain ⟨w,hw,hxw⟩:=List.mem_flatMap.mp hy;have:=h2 a List.mem_cons_self w (List.mem_cons_of_mem _ hw) x hx hxw;exact n1 (this ▸ hw)
theorem oC (g:Good m rs) (R:Rooted m rs r par dep):∀ (n:Nat) (v:Int),0<=v->v<m->(pJ m rs r par n v).Nodup/\∀ x∈pJ m rs r par n v,(0<=x/\x<m)/\∃ k,dep x=dep v+k/\up par k x=v
 | 0,v,h0,h1=>⟨by unfold pJ;simp,fun x hx=>by
     unfold pJ at hx;rw [List.mem_singleton.mp hx];exact ⟨⟨h0,h1⟩,0,rfl,rfl⟩⟩
 | n+1,v,h0,h1=>by
   have mk:∀ u,u∈aK m rs (front r par v) v->(0<=u/\u<m)/\u≠r/\par u=v:=fun u=>(ba g R h0 h1).mp;have nk:(aK m rs (front r par v) v).Nodup:=vE;have ih:=fun u hu=>oC g R n u (mk u hu).1.1 (mk u hu).1.2;have du:∀ u∈aK m rs (front r par v) v,dep u=dep v+1:=fun u hu=>by
     obtain ⟨w1,w2,w3⟩:=mk u hu;have:=R.pos w1.1 w1.2 w2;rw [w3] at this;exact this
   unfold pJ;refine ⟨List.nodup_cons.mpr ⟨fun z=>?_,B8 nk (fun u hu=>(ih u hu).1) fun u hu w hw x hx hy=>?_⟩,fun x hx=>?_⟩
   . obtain ⟨u,hu,hv⟩:=List.mem_flatMap.mp z;obtain ⟨_,k,e,_⟩:=(ih u hu).2 v hv;have:=du u hu;omega
   . obtain ⟨_,k1,e1,f1⟩:=(ih u hu).2 x hx;obtain ⟨_,k2,e2,f2⟩:=(ih w hw).2 x hy;have d1:=du u hu;have d2:=du w hw;have:k1=k2:=(by omega);rw [<- f1,<- f2,this]
   . rcases List.mem_cons.mp hx with rfl|hx
     . exact ⟨⟨h0,h1⟩,0,rfl,rfl⟩
     . obtain ⟨u,hu,hv⟩:=List.mem_flatMap.mp hx;obtain ⟨xr,k,e,f⟩:=(ih u hu).2 x hv;exact ⟨xr,k+1,by rw [e,du u hu];omega,by show par (up par k x)=v;rw [f];exact (mk u hu).2.2⟩
theorem Q0 (g:Good m rs) (R:Rooted m rs r par dep) {v:Int} (h0:0<=v) (h1:v<m):(bj m rs r par dep v).length<=24:=by
 obtain ⟨n1,n2⟩:=oC g R (m.toNat - 1 - dep v) v h0 h1;have:=cH (m:=m) (by omega) n1 fun x hx=>(n2 x hx).1;have:=g.m24;unfold bj;omega
end Pb
namespace L2
open PySem PySem.Spec PyProof.Rows
def Itv (K:PySem.W.Frag) (a:Addr) (n:Nat):It :=
 ⟨fun i H=>i<n/\∃ xs x,SqL K H a xs/\xs[n - 1 - i]?=some x,fun i H x H'=>H'=H/\∀ xs,SqL K H a xs->xs[n - 1 - i]?=some x,fun i H=>n<=i⟩
theorem QY {P:Program} {w:World} {K:PySem.W.Frag} {tg:Expr} (a it:Addr) (n:Nat):Turn P w K tg (Itv K a n) [it] it (fun i h=>i<=n/\h.IsRevIter it a ((n:Int) - 1 - (i:Int))) where
 mem:=by simp
 obj:=fun i h st b hb=>by
   have e:b=it:=by simpa using hb
   subst e;obtain ⟨_,o,e,c,d⟩:=st;exact ⟨o,e,fun v z=>by rw [d] at z;cases z⟩
 keep:=fun i h h' st k=>⟨st.1,st.2.at fun o e=>k it (by simp) o e⟩
 item:=by
   intro X hP hw hK hc i pins s σ H E I hf st hg;subst hP hw hK;obtain ⟨hi,xs,x,hq,hx⟩:=hg;obtain ⟨its,rv,p,hz⟩:=I.list hq;obtain ⟨u,hu,ru⟩:=rv.get hx;obtain ⟨f0,f1,f2,f3,f4,f5⟩:=hf it (by simp);have e0:(n:Int) - 1 - (i:Int)=((n - 1 - i:Nat):Int):=by omega
   have st2:=st.2;rw [e0] at st2;refine wpAny_pyNext_rev_item st2 p.isList (x:=u) (by simpa using hu) fun h' st' sb=>?_;have I1:Inv X pins σ H { s with heap:=h' }:=I.turned (t':=s.toks) (fun b o hb e=>(sb.2 b hb).trans e) f0 f1 f3 f4 f5;obtain ⟨o,e,c,d⟩:=id st';have e1:((n - 1 - i:Nat):Int) - 1=(n:Int) - 1 - ((i+1:Nat):Int):=by omega
   rw [e1] at st';exact ⟨u,rfl,Ft (s:={ s with heap:=h' }) e c d (by decide) ⟨x,H,I1,ru,⟨rfl,fun ys hy=>by rw [I.list_inj hy hq];exact hx⟩,⟨hi,st'⟩,fun b hb=>(hf b hb).1⟩⟩
 done:=by
   intro X hP hw hK hc i pins s σ H E I hf st hg;subst hP hw hK;have hg':n<=i:=hg;obtain ⟨f0,f1,f2,f3,f4,f5⟩:=hf it (by simp);have st2:=st.2;have st1:=st.1;rw [show (n:Int) - 1 - (i:Int)=-1 by omega] at st2;exact wpAny_pyNext_rev_end (I.ok.hd hc) st2 fun h' eb=>⟨rfl,I.turned (t':=s.toks) (fun b o hb e=>eb b o hb e) f0 f1 f3 f4 f5⟩
 self:=fun _ _ _ _ _ st h=>wpAny_pyIter_revIter st.2 h
def Q6 (K:PySem.W.Frag) (tl:TE):TI:=fun σ H R=>tl σ H fun x H1=>∃ a xs,x=.ref a/\SqL K H1 a xs/\R (Itv K a xs.length) H1
section
variable {X:Cx} {tg e:Expr} {te:TE} {p2 pos:Pos}
theorem rG (hg:Gl X "reversed") (hm:X.mg "reversed"=none) (he:PE X e te) (h2:starEach [e] X.env=[(false,eval e X.env)]:=by rfl):PI X tg (.Call (.Name "reversed" p2) [e] [] pos) (Q6 X.K te):=by
 intro pins s σ H R I h;refine Call_ (kH I hg hm boot_reversed (PyProof.Rows.callWith_type1 ?_ h2 rfl));rw [h2];show wpAny _ _ (spliced ((false,eval e X.env)::backTo pos [])) _ _ s;refine Calls.spliced_cons (bx (he pins s σ H _ I h) fun u s1 x H1 I1 r1 q1=>Calls.spliced_nil ?_);obtain ⟨a,ys,ex,sa,q⟩:=q1;subst ex;cases r1;obtain ⟨its,rv,pl,hz⟩:=I1.list sa;refine call_reversed_list pl.isList ?_;have sz:its.toArray.size=ys.length:=by rw [List.size_toArray,rv.length]
 rw [sz];refine wpAny_pyIter_revIter (i:=(ys.length:Int) - 1) (l:=a) ⟨_,Heap.get?_push_size _ rfl,rfl,rfl⟩ ?_;refine ⟨s1.heap.objs.size,[s1.heap.objs.size],_,_,H1,rfl,I1.kept (t':=s1.toks) fun b o e=>Heap.get?_push_of_some _ e,QY a _ ys.length,⟨Nat.zero_le _,?_⟩,fun b hb=>?_,q⟩
 . exact ⟨_,Heap.get?_push_size _ rfl,rfl,by simp [revObj]⟩
 . have e:b=s1.heap.objs.size:=by simpa using hb
   subst e;exact I1.fpOk (Nat.le_refl _) (I1.hok.fresh (Nat.le_refl _))
end
theorem nF {K:PySem.W.Frag} {a:Addr} {xs:List V} {g:TG} {tb:TS} {D:Ends} {σ:St} {H:Hp} (Pv:Nat->St->Hp->Prop) (h0:Pv 0 σ H) (hl:∀ i σ H,i<=xs.length->Pv i σ H->SqL K H a xs)
   (hs:∀ (i:Nat) (x:V) (σ:St) (H:Hp) (N:St->Hp->Prop),(∀ σ' H',Pv (i+1) σ' H'->N σ' H')->xs.reverse[i]?=some x->Pv i σ H->g x σ H fun σ2 H2=>tb { D with nx:=N,ct:=N,bk:=D.nx } σ2 H2) (hd:∀ σ H,Pv xs.length σ H->D.nx σ H) :
   oN (Itv K a xs.length) D g tb σ H:=by
 refine ⟨fun i m σ H=>m=xs.length - i/\i<=xs.length/\Pv i σ H,⟨xs.length,by simp,Nat.zero_le _,h0⟩,?_⟩;rintro i m σ H ⟨rfl,hi,p⟩;have q:=hl i σ H hi p;by_cases hlt:i<xs.length
 . have hx:xs[xs.length - 1 - i]?=some xs[xs.length - 1 - i]:=List.getElem?_eq_getElem (by omega);refine .inr ⟨⟨hlt,xs,_,q,hx⟩,fun σ' H'=>∃ m',m'<xs.length - i/\(m'=xs.length - (i+1)/\i+1<=xs.length/\Pv (i+1) σ' H'),fun σ' H' z=>z,fun x H' y=>?_⟩;obtain ⟨e,y⟩:=y;subst e;exact hs i x σ _ _ (fun σ' H' p'=>⟨xs.length - (i+1),by omega,rfl,hlt,p'⟩) (by rw [List.getElem?_reverse hlt];exact y xs q) p
 . have e:i=xs.length:=by omega
   subst e;exact .inl ⟨Nat.le_refl _,hd σ H p⟩
end L2
namespace L2
open PySem PySem.Spec PyProof.Rows
def Om (te:TE):TE:=fun σ H Q=>te σ H fun x H1=>∃ i,x=.int i/\0<=i/\i<=100000/\∀ l,H1 l=none->Q (.ref l) (upd H1 l (.lst ((Pb.below i.toNat).map V.int)))
end L2
namespace L2
open PySem PySem.Spec PyProof.Rows
theorem TR:bootBuiltins "sum"=some (.builtin "sum"):=by decide +kernel
theorem zQ (ns:List Int):∀ n,n<=ns.length->preSum (fun i=>ns.getD i 0) n=(ns.take n).sum
 | 0,_=>by simp [preSum]
 | n+1,h=>by
   have ih:=zQ ns n (by omega);have hn:n<ns.length:=by omega
   rw [List.take_succ,List.getElem?_eq_getElem hn,List.sum_append,<- ih];simp [preSum,List.getD,hn]
section
variable {X:Cx}
theorem OS (hc:X.calm=true):j9 X (.builtin "sum") (fun xs H Q=>∃ (p:Addr) (ns:List Int),xs=[.ref p]/\(SqL X.K H p (ns.map V.int)\/SqT X.K H p (ns.map V.int))/\Q (.int ns.sum) H):=by
 intro pins s σ H xs us Q I r h;obtain ⟨p,ns,rfl,hp,q⟩:=h;obtain ⟨u,rfl,ru⟩:=qo r;cases ru;have hh:X.A.in1.handled=none:=I.ok.hd hc;have vals:∀ {its:List Value},Vals (ns.map V.int) its->its.length=ns.length/\∀ (i:Nat) (v:Value),its.toArray[i]?=some v->∃ t,v=Value.int (ns.getD i 0) t:=by
   intro its rv;have hlen:its.length=ns.length:=by rw [<- rv.length,List.length_map]
   refine ⟨hlen,fun i v hP=>?_⟩;have hi:its[i]?=some v:=by simpa using hP
   have hib:i<ns.length:=by rw [<- hlen];exact (List.getElem?_eq_some_iff.mp hi).1
   obtain ⟨u,hu,ru⟩:=rv.get (i:=i) (x:=V.int ns[i]) (by rw [List.getElem?_map,List.getElem?_eq_getElem hib];rfl);rw [hi] at hu;cases hu;obtain ⟨t,e⟩:=(show ∃ t,v=Value.int ns[i] t from ru);exact ⟨t,by rw [e];simp [List.getD,hib]⟩
 have fin:∀ {n:Nat},n=ns.length->preSum (fun i=>ns.getD i 0) n=ns.sum:=fun {n} e=>by rw [zQ ns n (by omega),List.take_of_length_le (by omega)]
 rcases hp with hp|hp
 . obtain ⟨its,rv,pl,hz⟩:=I.list hp;obtain ⟨hlen,hv⟩:=vals rv;have hl:=pl.isList;have hlt:=pl.lt;refine call_sum_walkG (wpAny_pyIter_list hl ?_);refine ⟨s.heap.objs.size,[s.heap.objs.size,p],[s.heap.objs.size],its.toArray.size,_,_,fun i=>ns.getD i 0,rfl,Walks.list (A:=X.A.in1) hh _ p (Nat.ne_of_lt hlt) its.toArray,
     ⟨⟨_,Heap.get?_push_size _ rfl,rfl,rfl⟩,hl.push _⟩,fun b hb=>?_,fun i v hP=>hv i v hP,fun h' tk t' hk=>?_⟩
   . simp only [Heap.push,Array.size_push];rcases List.mem_cons.mp hb with e|e
     . rw [e];exact Nat.lt_succ_self _
     . rw [List.mem_singleton.mp e];exact Nat.lt_succ_of_lt hlt
   . have kk:∀ b o,s.heap.get? b=some o->h'.get? b=some o:=fun b o eb=>hk b o (fun hm=>by rw [List.mem_singleton.mp hm] at eb;exact Nat.lt_irrefl _ (Heap.lt_size eb)) (Heap.get?_push_of_some _ eb);rw [fin (by rw [List.size_toArray,hlen])];exact ⟨.int _,H,I.kept (t':=tk) kk,⟨t',rfl⟩,q⟩
 . obtain ⟨its,rv,pl,hz⟩:=I.tuple hp;obtain ⟨hlen,hv⟩:=vals rv;have hl:s.heap.IsTuple p its.toArray:=pl;have hlt:p<s.heap.objs.size:=by
     obtain ⟨o,e,_⟩:=id hl;exact Heap.lt_size e
   refine call_sum_walkG (wpAny_pyIter_tuple hl ?_);refine ⟨s.heap.objs.size,[s.heap.objs.size,p],[s.heap.objs.size],its.toArray.size,_,_,fun i=>ns.getD i 0,rfl,Walks.tuple (A:=X.A.in1) hh _ p (Nat.ne_of_lt hlt) its.toArray,
     ⟨⟨_,Heap.get?_push_size _ rfl,rfl,rfl⟩,hl.push _⟩,fun b hb=>?_,fun i v hP=>hv i v hP,fun h' tk t' hk=>?_⟩
   . simp only [Heap.push,Array.size_push];rcases List.mem_cons.mp hb with e|e
     . rw [e];exact Nat.lt_succ_self _
     . rw [List.mem_singleton.mp e];exact Nat.lt_succ_of_lt hlt
   . have kk:∀ b o,s.heap.get? b=some o->h'.get? b=some o:=fun b o eb=>hk b o (fun hm=>by rw [List.mem_singleton.mp hm] at eb;exact Nat.lt_irrefl _ (Heap.lt_size eb)) (Heap.get?_push_of_some _ eb);rw [fin (by rw [List.size_toArray,hlen])];exact ⟨.int _,H,I.kept (t':=tk) kk,⟨t',rfl⟩,q⟩
end
theorem JX {X:Cx} (K:PySem.W.Frag) (hK:X.K=K) {es:List Expr} {k:Nat} {pos:Pos} {t:TGs} {n:Nat} (hc:X.calm=true) (h:PGs X es t)
   (hn:(assignEach es X.env).length=n:=by rfl) (hst:(assignEach es X.env).findIdx? (·.1)=none:=by rfl):PG X (.Tuple es k pos) (G5 K n t):=by
 subst hK;exact hV hc h hn hst
theorem P9 {K:PySem.W.Frag} {c d:Bool} {a b p:Addr} {xs zs:List V} {Q:VK} {g:TG} {tc:TT} {te:TE} {σ0:St} {H0:Hp} (Pv:Nat->List V->St->Hp->Prop) (h0:Pv 0 [] σ0 H0) (hl:∀ i ys σ H,Pv i ys σ H->SqX K c H a xs/\SqX K d H b zs)
   (hs:∀ (i:Nat) (x z:V) (ys:List V) (σ:St) (H:Hp) (q:Addr) (N:List V->St->Hp->Prop),(∀ ys' σ' H',Pv (i+1) ys' σ' H'->N ys' σ' H')->xs[i]?=some x->zs[i]?=some z->Pv i ys σ H->H q=none->g (.ref q) σ (upd H q (.tup [x,z])) fun σ2 H2=>tc σ2 H2 fun b H3 =>
     if b=true then te σ2 H3 fun y H4=>H4 p=some (.lst ys)/\ys.length<sizeLine/\N (ys++[y]) σ2 (upd H4 p (.lst (ys++[y]))) else N ys σ2 H3)
   (hd:∀ ys σ H,Pv (min xs.length zs.length) ys σ H->Q (.ref p) H):rA (Itz K c d a b) p Q g tc te σ0 H0:=by
 refine ⟨fun i m ys σ H=>m=min xs.length zs.length - i/\i<=min xs.length zs.length/\Pv i ys σ H,⟨_,rfl,Nat.zero_le _,h0⟩,?_⟩;rintro i m ys σ H ⟨rfl,hi,pv⟩;obtain ⟨q1,q2⟩:=hl i ys σ H pv;by_cases hlt:i<min xs.length zs.length
 . refine .inr ⟨⟨xs,zs,xs[i]'(by omega),zs[i]'(by omega),q1,q2,List.getElem?_eq_getElem (by omega),List.getElem?_eq_getElem (by omega)⟩,fun x H' y=>?_⟩;obtain ⟨p',x',y',hp,rfl,rfl,e1,e2⟩:=y;exact hs i x' y' ys σ H p' (fun ys' σ' H'=>∃ m',m'<min xs.length zs.length - i/\(m'=min xs.length zs.length - (i+1)/\i+1<=min xs.length zs.length/\Pv (i+1) ys' σ' H')) (fun ys' σ' H' pv'=>⟨min xs.length zs.length - (i+1),by omega,rfl,hlt,pv'⟩) (e1 xs q1) (e2 zs q2) pv hp
 . have e:i=min xs.length zs.length:=by omega
   subst e;exact .inl ⟨⟨xs,zs,q1,q2,by omega⟩,hd ys σ H pv⟩
theorem DZ {H:Hp} {l:Addr} {xs:List V} {i:Int} {v:V} {Q:Hp->Prop} (h:H l=some (.lst xs)) (i0:0<=i) (i1:i<xs.length) (q:Q (upd H l (.lst (xs.set i.toNat v)))):rSetL (.ref l) (.int i) v H Q :=
 ⟨l,xs,i,i.toNat,rfl,rfl,h,by unfold ixN;rw [if_pos i0,if_pos (by omega)],q⟩
theorem atG {xs:List Int} {i:Int} (i0:0<=i) (i1:i<xs.length):atI (xs.map V.int) i=some (.int (xs.getD i.toNat 0)):=cL i0 (by
 have h:i.toNat<xs.length:=by omega
 rw [List.getElem?_map,List.getElem?_eq_getElem h];simp [List.getD,h])
theorem Mw (n:Nat) (v:V):(List.replicate n [v]).flatten=List.replicate n v:=by
 induction n with
 | zero=>rfl
 | succ n ih=>rw [List.replicate_succ,List.flatten_cons,ih,List.replicate_succ];rfl
theorem Q8 {K:PySem.W.Frag} {a p:Addr} {xs:List V} {Q:VK} {g:TG} {tc:TT} {te:TE} {σ0:St} {H0:Hp} (Pv:Nat->List V->St->Hp->Prop) (h0:Pv 0 [] σ0 H0) (hl:∀ i ys σ H,i<=xs.length->Pv i ys σ H->SqL K H a xs)
   (hs:∀ (i:Nat) (x:V) (ys:List V) (σ:St) (H:Hp) (N:List V->St->Hp->Prop),(∀ ys' σ' H',Pv (i+1) ys' σ' H'->N ys' σ' H')->xs.reverse[i]?=some x->Pv i ys σ H->g x σ H fun σ2 H2=>tc σ2 H2 fun b H3 =>
     if b=true then te σ2 H3 fun y H4=>H4 p=some (.lst ys)/\ys.length<sizeLine/\N (ys++[y]) σ2 (upd H4 p (.lst (ys++[y]))) else N ys σ2 H3)
   (hd:∀ ys σ H,Pv xs.length ys σ H->Q (.ref p) H):rA (Itv K a xs.length) p Q g tc te σ0 H0:=by
 refine ⟨fun i m ys σ H=>m=xs.length - i/\i<=xs.length/\Pv i ys σ H,⟨xs.length,by simp,Nat.zero_le _,h0⟩,?_⟩;rintro i m ys σ H ⟨rfl,hi,pv⟩;have q:=hl i ys σ H hi pv;by_cases hlt:i<xs.length
 . have hx:xs[xs.length - 1 - i]?=some xs[xs.length - 1 - i]:=List.getElem?_eq_getElem (by omega);refine .inr ⟨⟨hlt,xs,_,q,hx⟩,fun x H' y=>?_⟩;obtain ⟨e,y⟩:=y;subst e;exact hs i x ys σ _ (fun ys' σ' H'=>∃ m',m'<xs.length - i/\(m'=xs.length - (i+1)/\i+1<=xs.length/\Pv (i+1) ys' σ' H')) (fun ys' σ' H' pv'=>⟨xs.length - (i+1),by omega,rfl,hlt,pv'⟩) (by rw [List.getElem?_reverse hlt];exact y xs q) pv
 . have e:i=xs.length:=by omega
   subst e;exact .inl ⟨Nat.le_refl _,hd ys σ H pv⟩
end L2
namespace Pb
open L2
def After (par:Int->Int):List Int->List Int->Prop
 | _,[]=>True
 | S,c::t=>par c∈S/\After par (c::S) t
section
variable {m:Int} {rs:List Road} {r:Int} {par:Int->Int} {dep:Int->Nat}
theorem After.mono:∀ {l S S':List Int},(∀ x∈S,x∈S')->After par S l->After par S' l
 | [],_,_,_,_=>trivial
 | c::t,S,S',h,a=>⟨h _ a.1,After.mono (fun x hx=>by
     rcases List.mem_cons.mp hx with e|e
     . exact List.mem_cons.mpr (.inl e)
     . exact List.mem_cons_of_mem _ (h x e)) a.2⟩
theorem After.append:∀ {l1 l2 S:List Int},After par S l1->After par S l2->After par S (l1++l2)
 | [],_,_,_,b=>b
 | c::t,l2,S,a,b=>⟨a.1,After.append a.2 (b.mono fun x hx=>List.mem_cons_of_mem _ hx)⟩
theorem After.snoc {c:Int}:∀ {l S:List Int},After par S l->(par c∈S\/par c∈l)->After par S (l++[c])
 | [],S,_,h=>⟨h.resolve_right (by simp),trivial⟩
 | d::t,S,a,h=>⟨a.1,After.snoc a.2 (by
     rcases h with h|h
     . exact .inl (List.mem_cons_of_mem _ h)
     . rcases List.mem_cons.mp h with e|e
       . exact .inl (List.mem_cons.mpr (.inl e))
       . exact .inr e)⟩
theorem After.up:∀ {A B S:List Int},After par S (A++B)->∀ k∈A,par k∈S\/par k∈A
 | [],_,_,_,k,hk=>by cases hk
 | c::t,B,S,a,k,hk=>by
   rcases List.mem_cons.mp hk with e|e
   . rw [e];exact .inl a.1
   . rcases After.up (A:=t) (B:=B) a.2 k e with h|h
     . rcases List.mem_cons.mp h with h|h
       . exact .inr (by rw [h];exact List.mem_cons_self)
       . exact .inl h
     . exact .inr (List.mem_cons_of_mem _ h)
structure Order (m r:Int) (par:Int->Int) (t:List Int):Prop where
 nd:(r::t).Nodup
 rng:∀ v∈t,0<=v/\v<m
 all:∀ v,0<=v->v<m->v=r\/v∈t
 af:After par [r] t
theorem Order.ne {t:List Int} (O:Order m r par t) {v:Int} (h:v∈t):v≠r:=fun z=>(List.nodup_cons.mp O.nd).1 (z ▸ h)
theorem Bq (g:Good m rs) (R:Rooted m rs r par dep):∀ (n:Nat) (v:Int) (S:List Int),0<=v->v<m->par v∈S->After par S (pJ m rs r par n v)
 | 0,v,S,_,_,h=>⟨h,trivial⟩
 | n+1,v,S,h0,h1,h=>by
   refine ⟨h,?_⟩;have:∀ (ks:List Int) (S:List Int),v∈S->(∀ u∈ks,u∈aK m rs (front r par v) v)->After par S (ks.flatMap (pJ m rs r par n)):=by
     intro ks
     induction ks with
     | nil=>intro S _ _;exact trivial
     | cons u ks ih =>
       intro S hv hk;rw [List.flatMap_cons];obtain ⟨w1,w2,w3⟩:=(ba g R h0 h1).mp (hk u List.mem_cons_self);exact (Bq g R n u S w1.1 w1.2 (by rw [w3];exact hv)).append (ih S hv fun x hx=>hk x (List.mem_cons_of_mem _ hx))
   exact this _ _ List.mem_cons_self fun u hu=>hu
theorem CI (g:Good m rs) (R:Rooted m rs r par dep) (r0:0<=r) (r1:r<m) (nd:(bj m rs r par dep r).Nodup) (al:∀ v,v∈bj m rs r par dep r↔0<=v/\v<m):∃ t,bj m rs r par dep r=r::t/\Order m r par t:=by
 have e:=db g R r0 r1;refine ⟨_,e,?_⟩;rw [e] at nd al;refine ⟨nd,fun v hv=>(al v).mp (List.mem_cons_of_mem _ hv),fun v h0 h1=>List.mem_cons.mp ((al v).mpr ⟨h0,h1⟩),?_⟩;have:∀ ks:List Int,(∀ u∈ks,u∈aK m rs (front r par r) r)->After par [r] (ks.flatMap (bj m rs r par dep)):=by
   intro ks
   induction ks with
   | nil=>intro _;exact trivial
   | cons u ks ih =>
     intro hk;rw [List.flatMap_cons];obtain ⟨w1,w2,w3⟩:=(ba g R r0 r1).mp (hk u List.mem_cons_self);exact (Bq g R _ u [r] w1.1 w1.2 (by rw [w3];exact List.mem_cons_self)).append (ih fun x hx=>hk x (List.mem_cons_of_mem _ hx))
 exact this _ fun u hu=>hu
variable {held:Int->Int} {con:Int->Int->Int}
theorem JK (g:Good m rs) (R:Rooted m rs r par dep) {t:List Int} (nd:t.Nodup) (tr:∀ x∈t,(0<=x/\x<m)/\x≠r) {v:Int} (h0:0<=v) (h1:v<m) (hk:∀ k,0<=k->k<m->k≠r->par k=v->k∈t):(t.filter fun c=>decide (par c=v)).Perm (aK m rs (front r par v) v):=by
 refine lm (nd.filter _) vE fun x=>?_;rw [List.mem_filter,ba g R h0 h1,decide_eq_true_eq];exact ⟨fun h=>⟨(tr x h.1).1,(tr x h.1).2,h.2⟩,fun h=>⟨hk x h.1.1 h.1.2 h.2.1 h.2.2,h.2.2⟩⟩
theorem Order.places {t:List Int} (O:Order m r par t):∀ x∈t,(0<=x/\x<m)/\x≠r:=fun x hx=>⟨O.rng x hx,O.ne hx⟩
end
end Pb
namespace L2
open PySem PySem.Spec PyProof.Rows
def C4 (xs:List Int) (lo hi:Option Int):List Int:=(xs.drop (HT.sIx xs.length 0 lo)).take (HT.sIx xs.length xs.length hi - HT.sIx xs.length 0 lo)
theorem GB (xs:List Int) (lo hi:Option Int):mw (xs.map V.int) lo hi=(C4 xs lo hi).map V.int:=by
 unfold mw C4;rw [List.length_map,List.map_take,List.map_drop]
theorem slI {K:PySem.W.Frag} {H:Hp} {a:Addr} {xs:List Int} {lo hi:Option Int} {Q:VK} (h:SqL K H a (xs.map V.int)) (q:∀ p,H p=none->Q (.ref p) (upd H p (.lst ((C4 xs lo hi).map V.int)))):Te K (.ref a) lo hi H Q :=
 ⟨a,_,rfl,h,fun p hp=>by rw [GB];exact q p hp⟩
end L2
namespace L2
open PySem PySem.Spec PyProof.Rows
def UT (lo st:Int) (n:Nat):It:=⟨fun i _=>i<n,fun i H x H'=>H'=H/\x=.int (lo+i*st),fun i _=>n<=i⟩
def RS (ta:TA):TI:=fun σ H R=>ta σ H fun vs H1=>∃ i j c:Int,vs=[.int i,.int j,.int c]/\(0<=i/\i<=1000000/\0<=j/\j<=1000000/\0<c/\c<=1000000)/\R (UT i c (Builtin.Range.rangeSize i j c).toNat) H1
end L2
namespace L2
open PySem PySem.Spec PyProof.Rows
def UE (K:PySem.W.Frag) (c:Bool):R2:=fun x y H Q=>∃ p xs i v,x=.ref p/\y=.int i/\SqX K c H p xs/\atI xs i=some v/\Q v H
theorem TD {X:Cx} (c:Bool):IxR X (UE X.K c):=by
 cases c
 . exact jc
 . exact aM
theorem ixX {K:PySem.W.Frag} {c:Bool} {H:Hp} {p:Addr} {xs:List V} {i:Int} {v:V} {Q:VK} (h:SqX K c H p xs) (e:atI xs i=some v) (q:Q v H):UE K c (.ref p) (.int i) H Q:=⟨p,xs,i,v,rfl,rfl,h,e,q⟩
end L2
namespace Pb
open L2 PySem
theorem Ke {α β:Type} {R:α->β->Prop}:∀ (n:Nat) {l₁:List α} {l₂:List β},Paired R l₁ l₂->Paired R (l₁.take n) (l₂.take n)
 | 0,_,_,_=>by rw [List.take_zero,List.take_zero];exact .nil
 | _+1,_,_,.nil=>.nil
 | n+1,_,_,.cons x xs=>.cons x (Ke n xs)
theorem JO {α β:Type} {R:α->β->Prop}:∀ (n:Nat) {l₁:List α} {l₂:List β},Paired R l₁ l₂->Paired R (l₁.drop n) (l₂.drop n)
 | 0,_,_,h=>h
 | _+1,_,_,.nil=>.nil
 | n+1,_,_,.cons x xs=>JO n xs
theorem HM {α β:Type} {R:α->β->Prop} {k₁:List α} {k₂:List β} (h:Paired R k₁ k₂):∀ {l₁:List α} {l₂:List β},Paired R l₁ l₂->Paired R (l₁++k₁) (l₂++k₂)
 | _,_,.nil=>h
 | _,_,.cons x xs=>.cons x (HM h xs)
theorem TV {α β:Type} {R:α->β->Prop} {ps:List α} {rs:List β} {q:α} {r:β} (n:Nat) (h:Paired R ps rs) (e:R q r):Paired R (ps.take n++q::ps.drop n) (rs.take n++r::rs.drop n):=HM (.cons e (JO n h)) (Ke n h)
theorem Os {n:Nat} {rows:List Row} {row:Row} (R:Rows n rows) (k:row.k=(n:Int)+1) (ok:RowOk row):Rows (n+1) (rows++[row]):=by
 have rl:=R.len;refine ⟨by rw [List.length_append,rl];rfl,fun j r hj=>?_⟩;by_cases hjl:j<rows.length
 . rw [List.getElem?_append_left hjl] at hj;exact R.ok j r hj
 . have hj2:j=rows.length:=by
     have:=(List.getElem?_eq_some_iff.mp hj).1;rw [List.length_append] at this;simp at this;omega
   rw [hj2,List.getElem?_append_right (Nat.le_refl _),Nat.sub_self] at hj;cases hj;exact ⟨by rw [hj2,rl];exact k,ok⟩
section
variable {m:Int} {rs:List Road} {r:Int} {par:Int->Int} {dep:Int->Nat}
def eO (rs:List Road) (fv:V) (p:Int) (i:Nat):List Int:=((below i).filter fun q=>(aZ rs p q).isSome).filter fun v=>decide (V.int v≠fv)
theorem Ci (i:Nat):below (i+1)=below i++[(i:Int)]:=by
 unfold below;rw [List.range_succ,List.map_append]
 rfl
theorem vU (p:Int) (fv:V):eO rs fv p m.toNat=aK m rs fv p:=by
 unfold eO aK;rw [MS]
theorem LH {fv:V} {p:Int} {i:Nat} (h1:(aZ rs p (i:Int)).isSome=true) (h2:V.int (i:Int)≠fv):eO rs fv p (i+1)=eO rs fv p i++[(i:Int)]:=by
 unfold eO;rw [Ci,List.filter_append,List.filter_append]
 congr 1
 simp [h1,h2]
theorem Cz {fv:V} {p:Int} {i:Nat} (h:(aZ rs p (i:Int)).isSome=true->¬ V.int (i:Int)≠fv):eO rs fv p (i+1)=eO rs fv p i:=by
 unfold eO;rw [Ci,List.filter_append,List.filter_append];have:([(i:Int)].filter fun q=>(aZ rs p q).isSome).filter (fun v=>decide (V.int v≠fv))=[]:=by
   by_cases c:(aZ rs p (i:Int)).isSome=true
   . have:=h c;simp [c]
     simpa using this
   . simp [c]
 rw [this,List.append_nil]
structure Bfs (m:Int) (rs:List Road) (r:Int) (par:Int->Int) (t:List Int) (k:Nat):Prop where
 J:AInv m rs r par t ((r::t).drop k)
 af:After par [r] t
theorem Bfs.start:Bfs m rs r par [] 0:=⟨AInv.start,trivial⟩
theorem Bfs.step (g:Good m rs) (R:Rooted m rs r par dep) (r0:0<=r) (r1:r<m) {t:List Int} {k:Nat} (b:Bfs m rs r par t k) {p:Int} (hp:(r::t)[k]?=some p):Bfs m rs r par (t++aK m rs (front r par p) p) (k+1):=by
 have hk:=(List.getElem?_eq_some_iff.mp hp).1;have ed:(r::t).drop k=p::(r::t).drop (k+1):=by
   rw [List.drop_eq_getElem_cons hk];rw [List.getElem?_eq_getElem hk] at hp;cases hp
   rfl
 have J:=b.J.step g R r0 r1 (p:=p) (ws':=(r::t).drop (k+1)) (by rw [ed]);have pr:=b.J.at_ r0 r1 (p:=p) (by rw [ed];exact List.mem_cons_self);have pm:p∈r::t:=List.mem_of_getElem? hp;refine ⟨?_,?_⟩
 . rw [<- List.cons_append,List.drop_append_of_le_length (by omega)];exact J
 . have:∀ (ks l:List Int),(∀ u∈ks,u∈aK m rs (front r par p) p)->After par [r] l->p∈r::l->After par [r] (l++ks):=by
     intro ks
     induction ks with
     | nil=>intro l _ h _;rw [List.append_nil];exact h
     | cons u ks ih =>
       intro l hu h hpl;obtain ⟨w1,w2,w3⟩:=(ba g R pr.1 pr.2).mp (hu u List.mem_cons_self);have h2:After par [r] (l++[u]):=h.snoc (by
         rw [w3];rcases List.mem_cons.mp hpl with e|e
         . exact .inl (by rw [e];exact List.mem_cons_self)
         . exact .inr e)
       have:=ih (l++[u]) (fun x hx=>hu x (List.mem_cons_of_mem _ hx)) h2 (by
         rcases List.mem_cons.mp hpl with e|e
         . rw [e];exact List.mem_cons_self
         . exact List.mem_cons_of_mem _ (List.mem_append_left _ e))
       rwa [List.append_assoc] at this
   exact this _ t (fun u hu=>hu) b.af pm
theorem Bfs.done (R:Rooted m rs r par dep) {t:List Int} {k:Nat} (hk:(r::t).length<=k) (b:Bfs m rs r par t k):Order m r par t:=by
 have J:=b.J;rw [List.drop_eq_nil_of_le hk] at J;refine ⟨List.nodup_cons.mpr ⟨J.nr,J.nd⟩,J.rng,fun v h0 h1=>?_,b.af⟩;by_cases z:v=r
 . exact .inl z
 . exact .inr (J.all R v h0 h1 z)
end
end Pb
namespace L2
open PySem PySem.Spec PyProof.Rows
theorem HB {P:Program} {w:World} {A:Around} {l:Addr} (c:Bool) {it:Addr} (hh:A.handled=none) (ne:l≠it) (its:Array Value):Draws P w A it [it,l] its.size (fun i v=>its[i]?=some v) (fun i h=>zAt l c it i h/\Lc l c h its) where
 live:=fun i h st=>let ⟨o,e,_⟩:=(fD l c P w).obj _ _ _ st.1;⟨o,e⟩
 frame:=fun i h h' st k=>⟨(fD l c P w).atK _ _ _ _ st.1 fun o e=>k it (by simp) o e,(fD l c P w).srcK _ _ _ st.2 fun o e=>k l (by simp) o e⟩
 item:=fun i s Q E hi st hq=>(fD l c P w).item A s it i its its[i] Q E st.1 st.2 (by simp [hi]) fun h' at' sb=>hq its[i] h' s.toks (by simp [hi]) ⟨at',(fD l c P w).srcK _ _ _ st.2 fun o e=>sb.extBut _ _ ne e⟩ sb
 done:=fun s Q E st hq=>(fD l c P w).fin A s it its.size its Q E hh st.1 st.2 (by simp) fun h' e eb he=>hq h' e eb he
section
variable {P:Program} {w:World} {A:Around} {E:Value->Shared->Prop} {s:Shared} {l:Addr} {ob:Obj} {src:Heap->Array Value->Prop} {at':Addr->Nat->Heap->Prop}
abbrev Fq (n:Nat):Obj:={ cls:=.type "enumerate",data:=.fields #[.none,.bool false,.ref n,rawInt 0,.none,.none] }
theorem CN (S:∀ P w,SubF P w l ob src at') (xs:Array Value) :
   Meets (Builtin.«enumerate.__new__» ⟨[.type "enumerate",.ref l],[]⟩) (fun _ R s=>src s.heap xs/\R (.ok (.ret (.ref (s.heap.push ob).objs.size))) { s with heap:=(s.heap.push ob).push (Fq s.heap.objs.size) }) :=
 .of_wp fun prog w A R s hyp=>by
   obtain ⟨hp,g,d,tk,os⟩:=s;obtain ⟨q1,r⟩:=hyp;have zsub:=sub_enumerate;have B1:src (Shared.heap ⟨hp,g,d,tk,os⟩) xs:=q1
   wp_walk using ((S prog w).start _ _ _ _ _ B1)
   refine wpAny_stack_any fun st=>?_;dsimp only;refine wpAny_pure ?_;have go:∀ b:Bool,b=true\/b=false:=fun b=>by cases b <;> simp
   split
   . rename_i c _ _ _ _ _
     rcases go (c == Value.type "enumerate") with z|z
     . rw [z]
       wp_walk using ((S prog w).start _ _ _ _ _ B1)
       exact ⟨_,rfl,r⟩
     . rw [z]
       wp_walk using ((S prog w).start _ _ _ _ _ B1)
       exact ⟨_,rfl,r⟩
   . wp_walk using ((S prog w).start _ _ _ _ _ B1)
     exact ⟨_,rfl,r⟩
theorem Oi (S:∀ P w,SubF P w l ob src at') {xs:Array Value} {Q:Value->Shared->Prop} (q1:src s.heap xs) (f1:ob.isFreed=false)
   (h:∀ h',IsEnum h' (s.heap.objs.size+1) s.heap.objs.size 0 .none->at' s.heap.objs.size 0 h'->(∀ c o,s.heap.get? c=some o->h'.get? c=some o)->Q (.ref (s.heap.objs.size+1)) { s with heap:=h' }) :
   wpAny (model P w) A (call (.type "enumerate") [.ref l]) Q E s:=by
 refine callType_new F.called_enumerate (by decide) (F.typeCall_enumerate_1 _) (F.newCall_enumerate_1 _) (fun obj=>F.args_object_init_2 obj _) F.entry_enumerate_new (CN S xs) ⟨q1,?_⟩;have n0:(s.heap.push ob).objs.size=s.heap.objs.size+1:=Heap.size_push ..;have c2:((s.heap.push ob).push (Fq s.heap.objs.size)).get? (s.heap.push ob).objs.size=some (Fq s.heap.objs.size):=Heap.get?_push_size _ rfl;have c1:((s.heap.push ob).push (Fq s.heap.objs.size)).get? s.heap.objs.size=some ob:=Heap.get?_push_of_some _ (Heap.get?_push_size _ f1);show _/\_;rw [n0] at c2;rw [n0];exact ⟨⟨_,c2,rfl⟩,h _ c2 ((S P w).first _ _ c1) fun c o e=>Heap.get?_push_of_some _ (Heap.get?_push_of_some _ e)⟩
end
def Ite (K:PySem.W.Frag) (c:Bool) (a:Addr):It :=
 ⟨fun i H=>∃ xs x,SqX K c H a xs/\xs[i]?=some x,
  fun i H v H'=>∃ p x,H p=none/\v=.ref p/\H'=upd H p (.tup [.int i,x])/\∀ xs,SqX K c H a xs->xs[i]?=some x,
  fun i H=>∃ xs,SqX K c H a xs/\xs.length=i⟩
theorem NC {P:Program} {w:World} {K:PySem.W.Frag} {elts:List Expr} {x1} {tpos:Pos} (c:Bool) (a e it:Addr) (ne:e≠it) (ae:a≠e) (ai:a≠it) :
   Turn P w K (.Tuple elts x1 tpos) (Ite K c a) [e,it] e (fun i h=>(∃ old,IsEnum h e it (i:Nat) old)/\zAt a c it i h) where
 mem:=by simp
 obj:=fun i h t b hb=>by
   obtain ⟨⟨old,t1⟩,t2⟩:=t;simp only [List.mem_cons,List.mem_nil_iff,or_false] at hb;rcases hb with rfl|rfl
   . exact ⟨_,t1,fun v z=>by cases z⟩
   . exact (fD a c P w).obj _ _ _ t2
 keep:=fun i h h' t k=>by
   obtain ⟨⟨old,t1⟩,t2⟩:=t;exact ⟨⟨old,k e (by simp) _ t1⟩,(fD a c P w).atK _ _ _ _ t2 fun o e=>k it (by simp) o e⟩
 item:=fun X e1 e2 e3 hc i pins s σ H E I f t g=>by
   subst e1 e2 e3;obtain ⟨⟨old,t1⟩,t2⟩:=t;obtain ⟨xs,x,s1,hx⟩:=g;obtain ⟨us,r1,q1⟩:=I.sqX s1;obtain ⟨xu,hxu,rx⟩:=r1.get hx;have hh:X.A.in1.handled=none:=I.ok.hd hc;have fz:∀ q∈[e,it],ly X pins H q:=f;have W:=WalksT.enumerateD (A:=X.A) (HB (P:=X.prog) (w:=X.w) (A:=X.A.in1) (l:=a) c (it:=it) hh ai us.toArray) e ne (by simp;exact ⟨ne,ae.symm⟩) (by simp);have hil:i<us.toArray.size:=by
     have:=(List.getElem?_eq_some_iff.mp hxu).1
     simpa using this
   refine W.item i s _ _ hil ⟨⟨old,t1⟩,t2,q1⟩ fun T vals h' tk pt le tup mid keep=>?_;refine ⟨_,rfl,W.go elts x1 tpos i T { s with heap:=h',toks:=tk } _ _ mid fun h2 st2 keep2=>?_⟩;obtain ⟨tt,xv,px,ev⟩:=pt;have exv:xv=xu:=by
     have h1:us[i]?=some xv:=(by simpa using px);rw [hxu] at h1;cases h1
     rfl
   subst exv;have Tw:T ∉ [e,it]:=W.apart i T h' mid;have kp:∀ q o,q ∉ [e,it]->s.heap.get? q=some o->h2.get? q=some o:=fun q o hq eo=>keep2 q o hq (keep q o hq eo);obtain ⟨ot,ht,hct,nt,hdt⟩:=tup;have new:h2.get? T=some ot:=keep2 T ot Tw ht;have Hn:∀ q u,H q=some u->q ∉ [e,it]:=fun q u e hq=>by rw [(fz q hq).1] at e;cases e
   have nH:H T=none:=I.hok.fresh le;have Tb:∀ q o,s.heap.get? q=some o->q≠T:=fun q o eo=>Nat.ne_of_lt (Nat.lt_of_lt_of_le (Heap.lt_size eo) le);have I2:Inv X pins σ H { s with heap:=h2,toks:=tk }:=by
     refine I.step (g':=s.gens) (d':=s.drawn) (t':=tk) (ch:=[e,it]) (fun q hq=>⟨(fz q hq).2.2.2.1,(fz q hq).2.1,(fz q hq).2.2.2.2.1,(fz q hq).2.2.2.2.2⟩) (fun q o _ _ hq e _=>kp q o hq e) (fun q o _ _ hq e _=>⟨o.slots,kp q o hq e⟩) (fun _ _ _ _ n=>n)
       (fun q o hq e=>⟨o,kp q o hq e⟩) (fun _ _ e=>e) (fun _ _ _ e=>e) (fun q ps e=>⟨#[],by rw [e];simp⟩) (fun m hm=>?_) (fun q u e=>?_) I.bare
     . obtain ⟨o,es,ep,ho,r⟩:=hm;exact ⟨o,es,ep,kp _ o (fun hq=>(fz _ hq).2.1 rfl) ho,r⟩
     . refine (I.hok q u e).stay (fun q' v hq' e'=>kp q' v ?_ e') (fun _ e'=>e') fun _ _ e'=>e';rcases hq' with rfl|hq'
       . exact Hn _ u e
       . exact Hn _ _ hq'
   have I3:Inv X pins σ (upd H T (.tup [.int i,x])) { s with heap:=h2,toks:=tk }:=by
     refine ⟨I2.ok,I2.os,I2.bare,?_,I2.loc,I2.cell,?_,fun n c e=>?_,fun p hp=>?_,fun q u e=>?_,I2.len⟩
     . refine ⟨I2.base.keep,I2.base.slot,fun q o e n hx=>?_,I2.base.there,fun q xs e=>?_,fun q o u e=>?_,fun q ps e=>?_⟩
       . have lt:q<X.s₀.heap.objs.size:=Heap.lt_size e;rw [ao (Nat.ne_of_lt (Nat.lt_of_lt_of_le lt (Nat.le_trans I.sz le)))];exact I2.base.free q o e n hx
       . have e':=I2.base.tups q xs e;rw [ao (fun z=>by rw [z,nH] at e';cases e')];exact e'
       . have e':=I2.base.frzs q o u e;rw [ao (fun z=>by rw [z,nH] at e';cases e')];exact e'
       . obtain ⟨more,e'⟩:=I2.base.tbls q ps e;exact ⟨more,by rw [ao (fun z=>by rw [z,nH] at e';cases e')];exact e'⟩
     . rw [ao (Nat.ne_of_lt (Nat.lt_of_lt_of_le I.lt le))];exact I2.free
     . obtain ⟨vv,o,ho,_⟩:=I.cell n c e;rw [ao (Tb _ _ ho)];exact I2.freeC n c e
     . obtain ⟨k1,k2,k3⟩:=I.pin p hp;rw [ao (Tb _ _ k1)];exact I2.pin p hp
     . by_cases hq:q=T
       . subst hq;rw [ah] at e;cases e;refine ⟨by show 2<=sizeLine;decide,[.int (i:Nat) tt,xv],.cons ⟨tt,rfl⟩ (.cons rx .nil),ot,new,hct,nt,?_⟩;rw [hdt,ev]
       . rw [ao hq] at e;refine (I2.hok q u e).stay (fun _ _ _ e'=>e') (fun q' e'=>?_) fun q' xs e'=>?_
         . rw [ao (fun z=>by rw [z,nH] at e';cases e')];exact e'
         . rw [ao (fun z=>by rw [z,nH] at e';cases e')];exact e'
   refine ⟨.ref T,_,I3,rfl,⟨T,x,nH,rfl,rfl,fun xs' q=>?_⟩,⟨st2.1,st2.2.1⟩,fun q hq=>?_⟩
   . rw [<- I.sqX_inj s1 q];exact hx
   . have hlt:q≠T:=by
       simp only [List.mem_cons,List.mem_nil_iff,or_false] at hq;rcases hq with rfl|rfl
       . exact Tb _ _ t1
       . exact let ⟨o,e,_⟩:=(fD a c X.prog X.w).obj _ _ _ t2;Tb _ _ e
     rw [ao hlt];exact (fz q hq).1
 done:=fun X e1 e2 e3 hc i pins s σ H E I f t g=>by
   subst e1 e2 e3;obtain ⟨⟨old,t1⟩,t2⟩:=t;obtain ⟨xs,s1,hend⟩:=g;obtain ⟨us,r1,q1⟩:=I.sqX s1;have hh:X.A.in1.handled=none:=I.ok.hd hc;have fz:∀ q∈[e,it],ly X pins H q:=f;have W:=WalksT.enumerateD (A:=X.A) (HB (P:=X.prog) (w:=X.w) (A:=X.A.in1) (l:=a) c (it:=it) hh ai us.toArray) e ne (by simp;exact ⟨ne,ae.symm⟩) (by simp);have ei:i=us.toArray.size:=by
     have:=r1.length;simp;omega
   subst ei;refine W.done s _ _ ⟨⟨old,t1⟩,t2,q1⟩ fun h' tk keep=>⟨rfl,?_⟩;have kp:∀ q o,q ∉ [e,it]->s.heap.get? q=some o->h'.get? q=some o:=fun q o hq e=>keep q o hq e;have Hn:∀ q u,H q=some u->q ∉ [e,it]:=fun q u e hq=>by rw [(fz q hq).1] at e;cases e
   refine I.step (g':=s.gens) (d':=s.drawn) (t':=tk) (ch:=[e,it]) (fun q hq=>⟨(fz q hq).2.2.2.1,(fz q hq).2.1,(fz q hq).2.2.2.2.1,(fz q hq).2.2.2.2.2⟩) (fun q o _ _ hq e _=>kp q o hq e) (fun q o _ _ hq e _=>⟨o.slots,kp q o hq e⟩) (fun _ _ _ _ n=>n)
     (fun q o hq e=>⟨o,kp q o hq e⟩) (fun _ _ e=>e) (fun _ _ _ e=>e) (fun q ps e=>⟨#[],by rw [e];simp⟩) (fun m hm=>?_) (fun q u e=>?_) I.bare
   . obtain ⟨o,es,ep,ho,r⟩:=hm;exact ⟨o,es,ep,kp _ o (fun hq=>(fz _ hq).2.1 rfl) ho,r⟩
   . refine (I.hok q u e).stay (fun q' v hq' e'=>kp q' v ?_ e') (fun _ e'=>e') fun _ _ e'=>e';rcases hq' with rfl|hq'
     . exact Hn _ u e
     . exact Hn _ _ hq'
 self:=fun A i s Q E t q=>by
   obtain ⟨⟨old,t1⟩,t2⟩:=t;exact wpAny_pyIter_enum t1 q
def KA (K:PySem.W.Frag) (c:Bool) (tl:TE):TI:=fun σ H R=>tl σ H fun x H1=>∃ a,x=.ref a/\(∃ xs,SqX K c H1 a xs)/\R (Ite K c a) H1
section
variable {X:Cx} {e:Expr} {te:TE} {p2 pos:Pos}
theorem Kx {elts:List Expr} {x1} {tpos:Pos} (c:Bool) (hg:Gl X "enumerate") (hm:X.mg "enumerate"=none) (he:PE X e te) (h2:starEach [e] X.env=[(false,eval e X.env)]:=by rfl):PI X (.Tuple elts x1 tpos) (.Call (.Name "enumerate" p2) [e] [] pos) (KA X.K c te):=by
 intro pins s σ H R I h;refine Call_ (kH I hg hm boot_enumerate (PyProof.Rows.callWith_type1 ?_ h2 rfl));rw [h2];show wpAny _ _ (spliced ((false,eval e X.env)::backTo pos [])) _ _ s;refine Calls.spliced_cons (bx (he pins s σ H _ I h) fun u s1 x H1 I1 r1 q1=>Calls.spliced_nil ?_);obtain ⟨a,ex,⟨xs,sa⟩,q⟩:=q1;subst ex;cases r1;obtain ⟨us,r1,q1⟩:=I1.sqX sa;obtain ⟨oa,hoa⟩:=qz a c _ _ q1;have la:=Heap.lt_size hoa;refine Oi (fD a c) q1 (yL a c) fun h' w1 w2 w3=>?_;refine wpAny_pyIter_enum w1 ?_;refine ⟨_,[s1.heap.objs.size+1,s1.heap.objs.size],_,_,H1,rfl,I1.kept (t':=s1.toks) w3,NC c a _ _ (Nat.succ_ne_self _) (Nat.ne_of_lt (Nat.lt_succ_of_lt la)) (Nat.ne_of_lt la),⟨⟨_,w1⟩,w2⟩,fun b hb=>?_,q⟩;have hle:s1.heap.objs.size<=b:=by
   simp only [List.mem_cons,List.mem_nil_iff,or_false] at hb;rcases hb with rfl|rfl
   . exact Nat.le_succ _
   . exact Nat.le_refl _
 exact I1.fpOk hle (I1.hok.fresh hle)
end
theorem Ph {K:PySem.W.Frag} {c:Bool} {a:Addr} {xs:List V} {g:TG} {tb:TS} {D:Ends} {σ:St} {H:Hp} (Pv:Nat->St->Hp->Prop) (h0:Pv 0 σ H) (hl:∀ i σ H,Pv i σ H->SqX K c H a xs)
   (hs:∀ (i:Nat) (x:V) (σ:St) (H:Hp) (p:Addr) (N:St->Hp->Prop),(∀ σ' H',Pv (i+1) σ' H'->N σ' H')->xs[i]?=some x->Pv i σ H->H p=none->g (.ref p) σ (upd H p (.tup [.int i,x])) fun σ2 H2=>tb { D with nx:=N,ct:=N,bk:=D.nx } σ2 H2)
   (hd:∀ σ H,Pv xs.length σ H->D.nx σ H):oN (Ite K c a) D g tb σ H:=by
 refine ⟨fun i m σ H=>m=xs.length - i/\i<=xs.length/\Pv i σ H,⟨_,rfl,Nat.zero_le _,h0⟩,?_⟩;rintro i m σ H ⟨rfl,hi,p⟩;have q1:=hl i σ H p;by_cases hlt:i<xs.length
 . refine .inr ⟨⟨xs,xs[i],q1,List.getElem?_eq_getElem hlt⟩,fun σ' H'=>∃ m',m'<xs.length - i/\(m'=xs.length - (i+1)/\i+1<=xs.length/\Pv (i+1) σ' H'),fun σ' H' z=>z,fun x H' y=>?_⟩;obtain ⟨p',x',hp,rfl,rfl,e1⟩:=y;exact hs i x' σ H p' _ (fun σ' H' p'=>⟨xs.length - (i+1),by omega,rfl,hlt,p'⟩) (e1 xs q1) p hp
 . have e:i=xs.length:=by omega
   subst e;exact .inl ⟨⟨xs,q1,rfl⟩,hd σ H p⟩
end L2
namespace L2
open PySem PySem.Spec PyProof.Rows
def RH (i j k:Nat) (ta:TA):TS:=fun D σ H=>ta σ H fun vs H1=>∃ v w z,vs=[v,w,z]/\D.nx (((σ.set i (some v)).set j (some w)).set k (some z)) H1
end L2
namespace L2
open PySem PySem.Spec PyProof.Rows
theorem Tl (zs:List V) {k:Int} (k0:0<=k):mw zs (some k) none=zs.drop k.toNat:=by
 unfold mw;have e1:HT.sIx zs.length zs.length none=zs.length:=rfl;have e2:HT.sIx zs.length 0 (some k)=min k.toNat zs.length:=by
   show (if k<0 then (k+(zs.length:Int)).toNat else min k.toNat zs.length)=_;rw [if_neg (by omega)]
 rw [e1,e2,List.take_of_length_le (by rw [List.length_drop];omega)];by_cases c:k.toNat<=zs.length
 . rw [Nat.min_eq_left c]
 . rw [Nat.min_eq_right (by omega),List.drop_of_length_le (Nat.le_refl _),List.drop_of_length_le (by omega)]
end L2
namespace L2
open PySem PySem.Spec PyProof.Rows
section
variable {X:Cx} {i o:Expr} {ty td:TE}
def RJ (ty td:TE):TE:=fun σ H Q=>ty σ H fun y H1=>td σ H1 fun x H2=>∃ a,x=.ref a/\((∃ o,DGet H2 a y o/\Q (.bl o.isSome) H2)\/(y=.non/\(∃ kvs,H2 a=some (.dK kvs))/\Q (.bl false) H2))
end
end L2
namespace Pb
open L2 PySem
section
variable {m:Int} {rs:List Road} {r b:Int} {par:Int->Int} {dep:Int->Nat}
def DC (par:Int->Int) (b:Int):Nat->Int->Bool
 | 0,v=>decide (v=b)
 | n+1,v=>decide (v=b) || DC par b n (par v)
def ben (par:Int->Int) (dep:Int->Nat) (b v:Int):Bool:=DC par b (dep v) v
theorem QV (R:Rooted m rs r par dep) {v:Int} (v0:0<=v) (v1:v<m) (hr:v≠r):ben par dep b v=(decide (v=b) || ben par dep b (par v)):=by
 unfold ben;rw [R.pos v0 v1 hr]
 rfl
end
end Pb
namespace L2
theorem bD {A B:TS} {D:Ends} {σ:St} {H:Hp} (h:∀ N:St->Hp->Prop,(∀ σ' H',B D σ' H'->N σ' H')->A { D with nx:=N } σ H):MB A B D σ H:=h (B D) fun _ _ z=>z
theorem r6 {c:TT} {A B:TS} {D:Ends} {σ:St} {H:Hp} (h:∀ NA NB:St->Hp->Prop,(∀ σ' H',A D σ' H'->NA σ' H')->(∀ σ' H',B D σ' H'->NB σ' H')->Gw c (fun _=>NA) (fun _=>NB) D σ H):Gw c A B D σ H:=h (A D) (B D) (fun _ _ z=>z) fun _ _ z=>z
end L2
namespace L2
open PySem
theorem pi {K:PySem.W.Frag} {a:Addr} {xs:List V} {g:TG} {tb:TS} {D:Ends} {σ:St} {H:Hp} (Pv:Nat->St->Hp->Prop) (h0:Pv 0 σ H) (hl:∀ i σ H,i<=xs.length->Pv i σ H->SqL K H a xs)
   (hs:∀ (i:Nat) (x:V) (σ:St) (H:Hp) (N B:St->Hp->Prop),(∀ σ H,(g x σ H fun σ2 H2=>tb { D with nx:=N,ct:=N,bk:=D.nx } σ2 H2)->B σ H)->(∀ σ' H',Pv (i+1) σ' H'->N σ' H')->xs[i]?=some x->Pv i σ H->B σ H)
   (hd:∀ (B:St->Hp->Prop) σ H,(∀ σ H,D.nx σ H->B σ H)->Pv xs.length σ H->B σ H):oN (Itl K a) D g tb σ H :=
 xV Pv h0 hl (fun i x σ H N hN hx p=>hs i x σ H N (fun σ H=>g x σ H fun σ2 H2=>tb { D with nx:=N,ct:=N,bk:=D.nx } σ2 H2) (fun _ _ z=>z) hN hx p) fun σ H p=>hd (fun σ H=>D.nx σ H) σ H (fun _ _ z=>z) p
theorem qu {lo:Int} {n:Nat} {g:TG} {tb:TS} {D:Ends} {σ:St} {H:Hp} (Pv:Nat->St->Hp->Prop) (h0:Pv 0 σ H)
   (hs:∀ (i:Nat) (σ:St) (H:Hp) (N B:St->Hp->Prop),(∀ σ H,(g (.int (lo+i)) σ H fun σ2 H2=>tb { D with nx:=N,ct:=N,bk:=D.nx } σ2 H2)->B σ H)->(∀ σ' H',Pv (i+1) σ' H'->N σ' H')->i<n->Pv i σ H->B σ H)
   (hd:∀ (B:St->Hp->Prop) σ H,(∀ σ H,D.nx σ H->B σ H)->Pv n σ H->B σ H):oN (Itr lo n) D g tb σ H :=
 qw Pv h0 (fun i σ H N hN hi p=>hs i σ H N (fun σ H=>g (.int (lo+i)) σ H fun σ2 H2=>tb { D with nx:=N,ct:=N,bk:=D.nx } σ2 H2) (fun _ _ z=>z) hN hi p) fun σ H p=>hd (fun σ H=>D.nx σ H) σ H (fun _ _ z=>z) p
theorem Db {c:TT} {tb:TS} {D:Ends} {σ:St} {H:Hp} (W:Nat->St->Hp->Prop) (n0:Nat) (h0:W n0 σ H)
   (hs:∀ (n:Nat) (σ:St) (H:Hp) (N:St->Hp->Prop) (B:Nat->St->Hp->Prop),(∀ n σ H,(c σ H fun b H1=>if b=true then ∃ N:St->Hp->Prop,(∀ σ' H',N σ' H'->∃ m',m'<n/\W m' σ' H')/\tb { D with nx:=N,ct:=N,bk:=D.nx } σ H1 else D.nx σ H1)->B n σ H)->(∀ n' σ' H',n'<n->W n' σ' H'->N σ' H')->(∀ σ' H',N σ' H'->∃ m',m'<n/\W m' σ' H')->W n σ H->B n σ H):GS c tb D σ H :=
 yX W n0 h0 fun n σ H N hN hN2 w=>hs n σ H N (fun n σ H=>c σ H fun b H1=>if b=true then ∃ N:St->Hp->Prop,(∀ σ' H',N σ' H'->∃ m',m'<n/\W m' σ' H')/\tb { D with nx:=N,ct:=N,bk:=D.nx } σ H1 else D.nx σ H1) (fun _ _ _ z=>z) hN hN2 w
theorem ex6 {α0:Sort _} {α1:Sort _} {α2:Sort _} {α3:Sort _} {α4:Sort _} {α5:Sort _} {P:α0->α1->α2->α3->α4->α5->Prop} (a0:α0) (a1:α1) (a2:α2) (a3:α3) (a4:α4) (a5:α5) (h:P a0 a1 a2 a3 a4 a5):∃ a0 a1 a2 a3 a4 a5,P a0 a1 a2 a3 a4 a5:=⟨a0,a1,a2,a3,a4,a5,h⟩
theorem an4 {p0 p1 p2 p3:Prop} (h0:p0) (h1:p1) (h2:p2) (h3:p3):p0/\p1/\p2/\p3:=⟨h0,h1,h2,h3⟩
end L2
namespace Pb
open L2 PySem
section
variable {m:Int} {rs:List Road} {r b:Int} {par:Int->Int} {dep:Int->Nat}
theorem JZ:∀ (n:Nat) (v:Int),DC par b n v=decide (b∈jg par n v)
 | 0,v=>by
   show decide (v=b)=decide (b∈[v]);exact decide_eq_decide.mpr ⟨fun z=>by rw [z];exact List.mem_cons_self,fun z=>(List.mem_singleton.mp z).symm⟩
 | n+1,v=>by
   show (decide (v=b) || DC par b n (par v))=decide (b∈v::jg par n (par v));rw [JZ n (par v)];by_cases c:v=b
   . rw [decide_eq_true c,Bool.true_or,decide_eq_true (by rw [c];exact List.mem_cons_self)]
   . rw [decide_eq_false c,Bool.false_or];exact decide_eq_decide.mpr ⟨fun z=>List.mem_cons_of_mem _ z,fun z=>by
       rcases List.mem_cons.mp z with z|z
       . exact absurd z.symm c
       . exact z⟩
end
end Pb
namespace Pb
open L2 PySem
section
variable {m:Int} {rs:List Road} {r b:Int} {par:Int->Int} {dep:Int->Nat}
theorem RB:∀ (k:Nat) (x:Int),up par (k+1) x=up par k (par x)
 | 0,_=>rfl
 | k+1,x=>by show par (up par (k+1) x)=par (up par k (par x));rw [RB k x]
theorem Aa:∀ (n k:Nat) (x:Int),k<=n->up par k x∈jg par n x
 | 0,0,x,_=>List.mem_cons_self
 | n+1,0,x,_=>List.mem_cons_self
 | n+1,k+1,x,h=>by
   rw [RB];exact List.mem_cons_of_mem _ (Aa n k (par x) (by omega))
theorem JW {f:Int->List Int}:∀ {l:List Int} {k:Nat} {p:Int},(l.flatMap f)[k]?=some p->∃ u∈l,∃ k' rest,(f u)[k']?=some p/\(l.flatMap f).drop k=(f u).drop k'++rest
 | [],k,p,h=>by simp at h
 | u::l,k,p,h=>by
   rw [List.flatMap_cons] at h ⊢;by_cases c:k<(f u).length
   . rw [List.getElem?_append_left c] at h;exact ⟨u,List.mem_cons_self,k,l.flatMap f,h,List.drop_append_of_le_length (Nat.le_of_lt c)⟩
   . rw [List.getElem?_append_right (by omega)] at h;obtain ⟨w,hw,k',rest,h1,h2⟩:=JW h;refine ⟨w,List.mem_cons_of_mem _ hw,k',rest,h1,?_⟩;rw [<- h2,List.drop_append,List.drop_eq_nil_of_le (by omega),List.nil_append]
theorem PF (g:Good m rs) (R:Rooted m rs r par dep):∀ (n:Nat) (v:Int),m.toNat - 1 - dep v=n->0<=v->v<m->∀ (k:Nat) (p:Int),(bj m rs r par dep v)[k]?=some p->∃ rest,(bj m rs r par dep v).drop k=bj m rs r par dep p++rest:=by
 intro n
 induction n with
 | zero =>
   intro v hn v0 v1 k p h;have e:bj m rs r par dep v=[v]:=by unfold bj;rw [hn];rfl
   cases k with
   | zero =>
     have:p=v:=(by rw [e] at h;exact (Option.some.inj h).symm);rw [this];exact ⟨[],by rw [List.append_nil];rfl⟩
   | succ k=>rw [e] at h;simp at h
 | succ n ih =>
   intro v hn v0 v1 k p h;have e:=db g R v0 v1;cases k with
   | zero =>
     have:p=v:=(by rw [e] at h;exact (Option.some.inj h).symm);rw [this];exact ⟨[],by rw [List.append_nil];rfl⟩
   | succ k =>
     rw [e,List.getElem?_cons_succ] at h;obtain ⟨u,hu,k',rest,h1,h2⟩:=JW h;obtain ⟨ur,un,up⟩:=(ba g R v0 v1).mp hu;have du:=R.pos ur.1 ur.2 un;rw [up] at du;have dl:=yw R ur.1 ur.2;obtain ⟨rest',h3⟩:=ih u (by omega) ur.1 ur.2 k' p h1;exact ⟨rest'++rest,by rw [e,List.drop_succ_cons,h2,h3,List.append_assoc]⟩
theorem AM (g:Good m rs) (R:Rooted m rs r par dep) {v:Int} (v0:0<=v) (v1:v<m):v∈bj m rs r par dep v:=by
 rw [db g R v0 v1];exact List.mem_cons_self
theorem Sk (g:Good m rs) (R:Rooted m rs r par dep) {p:Int} (p0:0<=p) (p1:p<m) (x:Int):x∈bj m rs r par dep p↔(0<=x/\x<m)/\ben par dep p x=true:=by
 constructor
 . intro h;obtain ⟨xr,k,e1,e2⟩:=(oC g R _ p p0 p1).2 x h;refine ⟨xr,?_⟩;unfold ben;rw [JZ];refine decide_eq_true ?_;rw [<- e2];exact Aa _ _ _ (by omega)
 . rintro ⟨xr,h⟩;generalize hn:dep x=n
   induction n generalizing x with
   | zero =>
     by_cases z:x=r
     . subst z;have:p=x:=by
         unfold ben at h;rw [R.root] at h;exact (of_decide_eq_true h).symm
       rw [this];exact AM g R xr.1 xr.2
     . have:=R.pos xr.1 xr.2 z;omega
   | succ n ih =>
     have z:x≠r:=fun z=>by rw [z,R.root] at hn;omega
     have u:=R.up x xr.1 xr.2 z;rw [QV R xr.1 xr.2 z] at h;by_cases y:x=p
     . rw [y];exact AM g R p0 p1
     . rw [decide_eq_false y,Bool.false_or] at h;have hp:=ih (par x) u.1 h (by omega);obtain ⟨k,hk⟩:=List.getElem?_of_mem hp;obtain ⟨rest,e⟩:=PF g R _ p rfl p0 p1 k _ hk;refine List.mem_of_mem_drop (i:=k) ?_;rw [e,db g R u.1.1 u.1.2];refine List.mem_append_left _ (List.mem_cons_of_mem _ (List.mem_flatMap.mpr ⟨x,(ba g R u.1.1 u.1.2).mpr ⟨xr,z,rfl⟩,AM g R xr.1 xr.2⟩))
end
end Pb
namespace L2
open PySem
def UH (_ j:Int):Prop:=0<j/\j.natAbs.log2<9000
theorem O5 {X:Cx}:OpR X (binaryOp .FloorDiv) (rI UH fun i j=>.int (i / j)):=opI fun i j _ _ _ _ _ hc q=>by
 have h1:(0:Int)<j:=hc.1;exact PyProof.Rows.floordiv_int (by omega) (by rw [Int.fdiv_eq_ediv_of_nonneg i (by omega)];exact q) (.inl (PyProof.noPylong_of_log2 hc.2))
end L2
namespace Pb
open PySem L2
def vPr (r:Int) (par:Int->Int) (v:Int):List V:=[.int v,front r par v]
abbrev PrsAt (H:Hp) (r:Int) (par:Int->Int):List Addr->List Int->Prop:=Paired fun q v=>H q=some (.tup (vPr r par v))
theorem PrsAt.same {H H':Hp} {r:Int} {par:Int->Int} {qs:List Addr} {vs:List Int} (e:Same H H') (h:PrsAt H r par qs vs):PrsAt H' r par qs vs:=Paired.imp' (fun q v x=>e q _ x) h
theorem PrsAt.get {H:Hp} {r:Int} {par:Int->Int}:∀ {ps:List Addr} {vs:List Int} {i:Nat} {x:V},PrsAt H r par ps vs->(ps.map V.ref)[i]?=some x->∃ p v,x=.ref p/\ps[i]?=some p/\vs[i]?=some v/\H p=some (.tup (vPr r par v))
 | _,_,i,x,.nil,e=>by simp at e
 | _,_,0,x,.cons (a:=p) (b:=r) h hs,e=>⟨p,r,by simpa using e.symm,by simp,by simp,h⟩
 | a::l1,_,i+1,x,.cons h hs,e=>by
   have e':(List.map V.ref l1)[i]?=some x:=by simpa using e
   obtain ⟨p,r,h1,h2,h3,h4⟩:=PrsAt.get hs e';exact ⟨p,r,h1,by simpa using h2,by simpa using h3,h4⟩
theorem PrsAt.snoc {H:Hp} {r:Int} {par:Int->Int} {q:Addr} {v:Int} (e:H q=some (.tup (vPr r par v))):∀ {qs:List Addr} {vs:List Int},PrsAt H r par qs vs->PrsAt H r par (qs++[q]) (vs++[v])
 | _,_,.nil=>.cons e .nil
 | _,_,.cons x xs=>.cons x (PrsAt.snoc e xs)
theorem Ks {α β:Type} {R:α->β->Prop} {k₁:List α} {k₂:List β} (h:Paired R k₁ k₂):∀ {l₁:List α} {l₂:List β},Paired R l₁ l₂->Paired R (l₁++k₁) (l₂++k₂)
 | _,_,.nil=>h
 | _,_,.cons x xs=>.cons x (Ks h xs)
end Pb
set_option exponentiation.threshold 5000
namespace Pb
open L2 PySem
section
variable {m:Int} {rs:List Road} {r:Int} {par:Int->Int} {dep:Int->Nat}
def foU (op:Int->Int->Int) (m:Int) (rs:List Road) (r:Int) (par:Int->Int) (held:Int->Int) (con:Int->Int->Int):Nat->Int->Int
 | 0,v=>held v
 | n+1,v=>((aK m rs (front r par v) v).map fun c=>con c (foU op m rs r par held con n c)).foldl op (held v)
def fo (op:Int->Int->Int) (m:Int) (rs:List Road) (r:Int) (par:Int->Int) (dep:Int->Nat) (held:Int->Int) (con:Int->Int->Int) (v:Int):Int:=foU op m rs r par held con (m.toNat - 1 - dep v) v
variable {op:Int->Int->Int} {held:Int->Int} {con:Int->Int->Int}
theorem Kn (g:Good m rs) (R:Rooted m rs r par dep) {v:Int} (h0:0<=v) (h1:v<m):fo op m rs r par dep held con v=((aK m rs (front r par v) v).map fun c=>con c (fo op m rs r par dep held con c)).foldl op (held v):=by
 have du:∀ u∈aK m rs (front r par v) v,dep u=dep v+1/\dep u+1<=m.toNat:=fun u hu=>by
   obtain ⟨w1,w2,w3⟩:=(ba g R h0 h1).mp hu;have:=R.pos w1.1 w1.2 w2;rw [w3] at this;exact ⟨this,yw R w1.1 w1.2⟩
 unfold fo;cases e:m.toNat - 1 - dep v with
 | zero =>
   have:aK m rs (front r par v) v=[]:=List.eq_nil_iff_forall_not_mem.mpr fun u hu=>by
     have:=du u hu;omega
   rw [this]
   rfl
 | succ n =>
   show List.foldl op (held v) _=_;rw [List.map_congr_left fun u hu=>show con u (foU op m rs r par held con n u)=con u (foU op m rs r par held con (m.toNat - 1 - dep u) u) by rw [show m.toNat - 1 - dep u=n by have:=du u hu;omega]]
def AW (op:Int->Int->Int):Prop:=∀ a b c,op (op a b) c=op (op a c) b
theorem Oa (hop:AW op) {l l':List Int} (h:l.Perm l'):∀ a,l.foldl op a=l'.foldl op a:=by
 induction h with
 | nil=>exact fun _=>rfl
 | cons x _ ih=>exact fun a=>ih _
 | swap x y l=>intro a;show List.foldl op (op (op a y) x) l=List.foldl op (op (op a x) y) l;rw [hop]
 | trans _ _ h1 h2=>exact fun a=>(h1 a).trans (h2 a)
theorem Kw (hop:AW op):∀ (l:List Int) (a x:Int),l.foldl op (op a x)=op (l.foldl op a) x
 | [],a,x=>rfl
 | y::l,a,x=>by show l.foldl op (op (op a x) y)=op (l.foldl op (op a y)) x;rw [hop,Kw hop l]
def rX (op:Int->Int->Int) (par:Int->Int) (con:Int->Int->Int) (cs:List Int) (v:Int):List Int:=cs.set (par v).toNat (op (cs.getD (par v).toNat 0) (con v (cs.getD v.toNat 0)))
structure Sofo (op:Int->Int->Int) (m:Int) (rs:List Road) (r:Int) (par:Int->Int) (dep:Int->Nat) (held:Int->Int) (con:Int->Int->Int) (t cs:List Int):Prop where
 len:(cs.length:Int)=m
 val:∀ v,0<=v->v<m->cs.getD v.toNat 0=((t.filter fun c=>decide (par c=v)).map fun c=>con c (fo op m rs r par dep held con c)).foldl op (held v)
theorem Sofo.nil {hs:List Int} (h:(hs.length:Int)=m) (e:∀ v,0<=v->v<m->hs.getD v.toNat 0=held v):Sofo op m rs r par dep held con [] hs:=⟨h,fun v h0 h1=>e v h0 h1⟩
theorem Sofo.full (hop:AW op) (g:Good m rs) (R:Rooted m rs r par dep) {t cs:List Int} (s:Sofo op m rs r par dep held con t cs) (nd:t.Nodup) (tr:∀ x∈t,(0<=x/\x<m)/\x≠r) {v:Int} (h0:0<=v) (h1:v<m) (hk:∀ k,0<=k->k<m->k≠r->par k=v->k∈t):cs.getD v.toNat 0=fo op m rs r par dep held con v:=by
 rw [s.val v h0 h1,Kn g R h0 h1,Oa hop ((JK g R nd tr h0 h1 hk).map _)]
theorem Sofo.step (hop:AW op) (g:Good m rs) (R:Rooted m rs r par dep) {t cs:List Int} (s:Sofo op m rs r par dep held con t cs) {v:Int} (h0:0<=v) (h1:v<m) (hr:v≠r) (e:cs.getD v.toNat 0=fo op m rs r par dep held con v):Sofo op m rs r par dep held con (v::t) (rX op par con cs v) where
 len:=by unfold rX;rw [List.length_set];exact s.len
 val:=fun u u0 u1=>by
   have pu:=(R.up v h0 h1 hr).1;have sl:=s.len;have vu:=s.val u u0 u1;unfold rX;rw [e];by_cases c:par v=u
   . have hl:u.toNat<cs.length:=(by omega);rw [List.filter_cons_of_pos (by simpa using c),List.map_cons,List.foldl_cons,Kw hop,<- vu,c];simp [List.getD,hl]
   . rw [List.filter_cons_of_neg (by simpa using c),<- vu];have:(par v).toNat≠u.toNat:=(by omega);simp [List.getD,List.getElem?_set_ne this]
theorem Order.cut (R:Rooted m rs r par dep) {t:List Int} (O:Order m r par t) {i:Nat} {v:Int} (hv:t.reverse[i]?=some v) :
   ((0<=v/\v<m)/\v≠r)/\t.drop (t.length - (i+1))=v::t.drop (t.length - i)/\(t.drop (t.length - i)).Nodup/\(∀ x∈t.drop (t.length - i),(0<=x/\x<m)/\x≠r)/\∀ k,0<=k->k<m->k≠r->par k=v->k∈t.drop (t.length - i):=by
 have hi:i<t.length:=by
   have:=(List.getElem?_eq_some_iff.mp hv).1
   rwa [List.length_reverse] at this
 rw [List.getElem?_reverse hi] at hv;generalize hj:t.length - 1 - i=j at hv;have ej:t.length - i=j+1:=by omega
 have ej':t.length - (i+1)=j:=by omega
 rw [ej,ej'];have hjl:j<t.length:=by omega
 have vm:v∈t:=List.mem_of_getElem? hv;have vp:=O.places v vm;have ed:t.drop j=v::t.drop (j+1):=by
   rw [List.drop_eq_getElem_cons hjl];rw [List.getElem?_eq_getElem hjl] at hv;cases hv
   rfl
 have es:t=t.take j++v::t.drop (j+1):=by rw [<- ed,List.take_append_drop]
 have ndt:=(List.nodup_cons.mp O.nd).2;have nd2:=ndt;rw [es] at nd2;have av:v ∉ t.take j:=fun z=>(List.nodup_append.mp nd2).2.2 v z v List.mem_cons_self rfl;refine ⟨vp,ed,ndt.sublist (List.drop_sublist _ _),fun x hx=>O.places x (List.mem_of_mem_drop hx),fun k k0 k1 kr pk=>?_⟩;rcases O.all k k0 k1 with z|z
 . exact absurd z kr
 . rw [es] at z;rcases List.mem_append.mp z with z|z
   . have af:=O.af;rw [es] at af;rcases af.up k z with w|w
     . rw [pk] at w;exact absurd (List.mem_singleton.mp w) vp.2
     . rw [pk] at w;exact absurd w av
   . rcases List.mem_cons.mp z with z|z
     . subst z;exact absurd pk (R.ne k0 k1 kr)
     . exact z
theorem Order.turnF (hop:AW op) (g:Good m rs) (R:Rooted m rs r par dep) {t cs:List Int} (O:Order m r par t) {i:Nat} {v:Int} (s:Sofo op m rs r par dep held con (t.drop (t.length - i)) cs) (hv:t.reverse[i]?=some v) :
   ((0<=v/\v<m)/\v≠r)/\cs.getD v.toNat 0=fo op m rs r par dep held con v/\Sofo op m rs r par dep held con (t.drop (t.length - (i+1))) (rX op par con cs v):=by
 obtain ⟨vp,ed,nd,tr,hk⟩:=O.cut R hv;have e:=s.full hop g R nd tr vp.1.1 vp.1.2 hk;exact ⟨vp,e,by rw [ed];exact s.step hop g R vp.1.1 vp.1.2 vp.2 e⟩
def foL (op:Int->Int->Int) (m:Int) (rs:List Road) (r:Int) (par:Int->Int) (dep:Int->Nat) (held:Int->Int) (con:Int->Int->Int):List Int:=(below m.toNat).map (fo op m rs r par dep held con)
theorem qB {v:Int} (h0:0<=v) (h1:v<m):(foL op m rs r par dep held con).getD v.toNat 0=fo op m rs r par dep held con v:=by
 unfold foL;rw [List.getD,List.getElem?_map,fK (by omega),Int.toNat_of_nonneg h0]
 rfl
theorem za:(foL op m rs r par dep held con).length=m.toNat:=by unfold foL;rw [List.length_map,aY]
theorem Order.doneF (hop:AW op) (g:Good m rs) (R:Rooted m rs r par dep) {t cs:List Int} (O:Order m r par t) (s:Sofo op m rs r par dep held con t cs):cs=foL op m rs r par dep held con:=by
 have sl:=s.len;refine List.ext_getElem? fun i=>?_;by_cases h:i<m.toNat
 . have hc:i<cs.length:=by omega
   have e:=s.full hop g R (List.nodup_cons.mp O.nd).2 O.places (v:=(i:Int)) (by omega) (by omega) fun k k0 k1 kr pk=>(O.all k k0 k1).resolve_left kr;unfold foL;rw [List.getElem?_map,fK h];rw [Int.toNat_natCast,List.getD,List.getElem?_eq_getElem hc] at e;rw [List.getElem?_eq_getElem hc];exact congrArg some e
 . rw [List.getElem?_eq_none (by omega),List.getElem?_eq_none (by rw [za];omega)]
def mx (i j:Int):Int:=if j > i then j else i
theorem y4:AW mx:=fun a b c=>by
 have h:∀ x y,mx x y=max x y:=fun x y=>by unfold mx;omega
 rw [h,h,h,h];omega
def bor (rs:List Road) (par:Int->Int) (v x:Int):Int:=x*(aZ rs v (par v)).getD 1
abbrev wgt (m:Int) (rs:List Road) (r:Int) (par:Int->Int) (dep:Int->Nat):Int->Int:=fo mx m rs r par dep (fun _=>1) (bor rs par)
abbrev ic (m:Int) (rs:List Road) (r:Int) (par:Int->Int) (dep:Int->Nat):List Int:=foL mx m rs r par dep (fun _=>1) (bor rs par)
theorem DF {B:Int}:∀ (l:List Int) (a:Int),a<=B->(∀ x∈l,x<=B)->a<=l.foldl mx a/\l.foldl mx a<=B/\∀ x∈l,x<=l.foldl mx a
 | [],a,h,_=>⟨Int.le_refl _,h,fun x hx=>by cases hx⟩
 | y::l,a,h,hl=>by
   have hy:=hl y List.mem_cons_self;have h1:a<=mx a y/\y<=mx a y/\mx a y<=B:=by unfold mx;split <;> omega
   obtain ⟨i1,i2,i3⟩:=DF l (mx a y) h1.2.2 fun x hx=>hl x (List.mem_cons_of_mem _ hx);refine ⟨Int.le_trans h1.1 i1,i2,fun x hx=>?_⟩;rcases List.mem_cons.mp hx with e|e
   . rw [e];exact Int.le_trans h1.2.1 i1
   . exact i3 x e
theorem Bo (g:Good m rs) (R:Rooted m rs r par dep):∀ (n:Nat) (v:Int),0<=v->v<m->1<=foU mx m rs r par (fun _=>1) (bor rs par) n v/\foU mx m rs r par (fun _=>1) (bor rs par) n v<=1000000^n
 | 0,v,_,_=>⟨Int.le_refl _,Int.le_refl _⟩
 | n+1,v,h0,h1=>by
   have hp:(1:Int)<=1000000^n:=Int.pow_pos (by decide);have he:(1000000:Int)^(n+1)=1000000^n*1000000:=Int.pow_succ ..;show 1<=List.foldl mx 1 _/\List.foldl mx 1 _<=_;obtain ⟨i1,i2,_⟩:=DF (B:=1000000^(n+1)) ((aK m rs (front r par v) v).map fun c=>bor rs par c (foU mx m rs r par (fun _=>1) (bor rs par) n c)) 1 (by omega) fun x hx=>by
     obtain ⟨c,hc,rfl⟩:=List.mem_map.mp hx;obtain ⟨w1,w2,w3⟩:=(ba g R h0 h1).mp hc;obtain ⟨k,hk,k0,k1⟩:=mq g R w1.1 w1.2 w2;obtain ⟨b0,b1⟩:=Bo g R n c w1.1 w1.2;unfold bor;rw [hk,he];show _*k<=_;exact Int.mul_le_mul b1 k1 (by omega) (by omega)
   exact ⟨i1,i2⟩
theorem D3 (g:Good m rs) (R:Rooted m rs r par dep) {v:Int} (h0:0<=v) (h1:v<m):1<=wgt m rs r par dep v/\wgt m rs r par dep v<=2^480:=by
 obtain ⟨a,b⟩:=Bo g R (m.toNat - 1 - dep v) v h0 h1;refine ⟨a,Int.le_trans b ?_⟩;have m24:=g.m24;have:(1000000:Int)^(m.toNat - 1 - dep v)<=1000000^24:=by
   have hn:m.toNat - 1 - dep v<=24:=by omega
   have h:=Int.ofNat_le.mpr (Nat.pow_le_pow_right (show 0<1000000 by decide) hn);rw [Int.natCast_pow,Int.natCast_pow] at h;exact h
 exact Int.le_trans this (by decide +kernel)
theorem Order.perm_len {t:List Int} (O:Order m r par t) (r0:0<=r) (r1:r<m):t.length+1=m.toNat:=by
 have h:=(lm O.nd (kQ m.toNat) fun x=>by
   rw [List.mem_cons,gB];refine ⟨fun h=>?_,fun h=>O.all x h.1 (by have:=h.2;omega)⟩;rcases h with h|h
   . rw [h];exact ⟨r0,by omega⟩
   . have:=O.rng x h;exact ⟨this.1,by omega⟩).length_eq
 rw [aY,List.length_cons] at h;exact h
end
end Pb
namespace L2
open PySem PySem.Spec PyProof.Rows
section
variable {X:Cx} {x:Str} {p pos kpos:Pos} {e de:Expr} {t tk:TA}
def RP (K:PySem.W.Frag) (t tk:TA):TE:=fun σ H Q=>t σ H fun vs H1=>tk σ H1 fun zs H2=>∃ (q:Addr) (ns:List Int) (d:V),vs=[.ref q]/\zs=[d]/\SqL K H2 q (ns.map V.int)/\ns≠[]/\∀ y,y∈ns->(∀ x∈ns,y<=x)->Q (.int y) H2
theorem Th:bootBuiltins "any"=some (.builtin "any"):=by decide +kernel
theorem O6 (hc:X.calm=true):j9 X (.builtin "any") (fun xs H Q=>∃ (p:Addr) (bs:List Bool),xs=[.ref p]/\SqL X.K H p (bs.map V.bl)/\Q (.bl (bs.any id)) H):=by
 intro pins s σ H xs us Q I r h;obtain ⟨p,bs,rfl,hp,q⟩:=h;obtain ⟨u,rfl,ru⟩:=qo r;cases ru;obtain ⟨its,rv,pl,hz⟩:=I.list hp;have hl:=pl.isList;have hlt:=pl.lt;have hh:X.A.in1.handled=none:=I.ok.hd hc;have hlen:its.length=bs.length:=by rw [<- rv.length,List.length_map]
 refine call_any_walk (wpAny_pyIter_list hl ?_);refine ⟨s.heap.objs.size,[s.heap.objs.size,p],[s.heap.objs.size],its.toArray.size,_,_,fun i=>(bs[i]?).getD false,rfl,Walks.list (A:=X.A.in1) hh _ p (Nat.ne_of_lt hlt) its.toArray,
   ⟨⟨_,Heap.get?_push_size _ rfl,rfl,rfl⟩,hl.push _⟩,fun i v s' Q' E' hP hQ=>?_,fun h' tk hk=>?_⟩
 . have hi:its[i]?=some v:=by simpa using hP
   have hib:i<bs.length:=by rw [<- hlen];exact (List.getElem?_eq_some_iff.mp hi).1
   obtain ⟨u,hu,ru⟩:=rv.get (i:=i) (x:=V.bl bs[i]) (by rw [List.getElem?_map,List.getElem?_eq_getElem hib];rfl);rw [hi] at hu;cases hu;cases ru;replace hQ:Q' (bs[i]?.getD false) s':=hQ;rw [List.getElem?_eq_getElem hib] at hQ;exact wpAny_truthy_bool hQ
 . have e:((List.range its.toArray.size).any fun i=>(bs[i]?).getD false)=bs.any id:=by
     rw [List.size_toArray,hlen];rw [Bool.eq_iff_iff,List.any_eq_true,List.any_eq_true]
     constructor
     . rintro ⟨i,hi,z⟩;have hi':=List.mem_range.mp hi;rw [List.getElem?_eq_getElem hi'] at z;exact ⟨_,List.getElem_mem hi',z⟩
     . rintro ⟨b,hb,z⟩;obtain ⟨i,hi,rfl⟩:=List.getElem_of_mem hb;refine ⟨i,List.mem_range.mpr hi,?_⟩;rw [List.getElem?_eq_getElem hi];exact z
   have kk:∀ b o,s.heap.get? b=some o->h'.get? b=some o:=fun b o eb=>hk b o (fun hm=>by rw [List.mem_singleton.mp hm] at eb;exact Nat.lt_irrefl _ (Heap.lt_size eb)) (Heap.get?_push_of_some _ eb);rw [e];exact ⟨.bl _,H,I.kept (t':=tk) kk,rfl,q⟩
def RC (t:TE):TE:=fun σ H Q=>t σ H fun x H1=>∃ b,x=.bl b/\Q (.bl (b != true)) H1
end
end L2
namespace Pb
open L2 PySem
section
variable {m:Int} {rs:List Road} {r:Int} {par:Int->Int} {dep:Int->Nat}
def tup (rs:List Road) (par:Int->Int) (v:Int):Int:=(aZ rs v (par v)).getD 1
theorem qJ (g:Good m rs) (R:Rooted m rs r par dep) {v:Int} (h0:0<=v) (h1:v<m) (hr:v≠r):2<=tup rs par v/\tup rs par v<=1000000:=by
 obtain ⟨k,hk,k0,k1⟩:=mq g R h0 h1 hr;unfold tup;rw [hk];exact ⟨k0,k1⟩
theorem D4:∀ (l:List Int) (a:Int),l.foldl mx a=a\/l.foldl mx a∈l
 | [],a=>.inl rfl
 | y::l,a=>by
   show l.foldl mx (mx a y)=a\/l.foldl mx (mx a y)∈y::l;rcases D4 l (mx a y) with h|h
   . rw [h];unfold mx;by_cases c:y > a
     . rw [if_pos c];exact .inr List.mem_cons_self
     . rw [if_neg c];exact .inl rfl
   . exact .inr (List.mem_cons_of_mem _ h)
theorem NZ (g:Good m rs) (R:Rooted m rs r par dep) {v:Int} (h0:0<=v) (h1:v<m) (hk:aK m rs (front r par v) v≠[]):∃ c∈aK m rs (front r par v) v,wgt m rs r par dep c*tup rs par c=wgt m rs r par dep v:=by
 have e:wgt m rs r par dep v=((aK m rs (front r par v) v).map fun c=>bor rs par c (wgt m rs r par dep c)).foldl mx 1:=Kn g R h0 h1;have at':=D4 ((aK m rs (front r par v) v).map fun c=>bor rs par c (wgt m rs r par dep c)) 1;rw [<- e] at at';rcases at' with h|h
 . exfalso
   obtain ⟨c,l,ek⟩:=List.exists_cons_of_ne_nil hk;have hc:c∈aK m rs (front r par v) v:=by rw [ek];exact List.mem_cons_self
   obtain ⟨c1,c2,c3⟩:=(ba g R h0 h1).mp hc;have tk:=qJ g R c1.1 c1.2 c2;have wb:=D3 g R c1.1 c1.2;have hB:∀ x∈(aK m rs (front r par v) v).map fun c=>bor rs par c (wgt m rs r par dep c),x<=2^480*1000000:=fun x hx=>by
     obtain ⟨d,hd,rfl⟩:=List.mem_map.mp hx;obtain ⟨d1,d2,d3⟩:=(ba g R h0 h1).mp hd;have tk:=qJ g R d1.1 d1.2 d2;have wb:=D3 g R d1.1 d1.2;show _*tup rs par d<=_;exact Int.mul_le_mul wb.2 tk.2 (by omega) (by decide +kernel)
   obtain ⟨_,_,i3⟩:=DF (B:=2^480*1000000) ((aK m rs (front r par v) v).map fun c=>bor rs par c (wgt m rs r par dep c)) 1 (by decide +kernel) hB;have:wgt m rs r par dep c*tup rs par c<=_:=i3 _ (List.mem_map.mpr ⟨c,hc,rfl⟩);rw [<- e,h] at this;have h2:(1:Int)*2<=wgt m rs r par dep c*tup rs par c:=Int.mul_le_mul wb.1 tk.1 (by decide) (by omega);omega
 . obtain ⟨c,hc,ec⟩:=List.mem_map.mp h;exact ⟨c,hc,ec⟩
def chV (o:Option Int):V:=match o with|none=>.non|some b=>.int b
def chL (m:Int) (ch:Int->Option Int):List V:=(below m.toNat).map fun v=>chV (ch v)
theorem Sn {ch:Int->Option Int} {v:Int} (h0:0<=v) (h1:v<m):atI (chL m ch) v=some (chV (ch v)):=by
 refine cL h0 ?_;unfold chL;rw [List.getElem?_map,fK (by omega),Int.toNat_of_nonneg h0]
 rfl
theorem R9 {ch:Int->Option Int} {v b:Int} (h0:0<=v) (h1:v<m):(chL m ch).set v.toNat (.int b)=chL m fun x=>if x=v then some b else ch x:=by
 refine List.ext_getElem? fun i=>?_;unfold chL;by_cases c:i<m.toNat
 . rw [List.getElem?_map,fK c];by_cases z:v.toNat=i
   . rw [<- z,List.getElem?_set_self (by rw [List.length_map,aY];omega)];show _=some (chV (if ((v.toNat:Nat):Int)=v then some b else _));rw [if_pos (by omega)]
     rfl
   . rw [List.getElem?_set_ne z,List.getElem?_map,fK c];show some (chV (ch _))=some (chV (if ((i:Nat):Int)=v then some b else _));rw [if_neg (by omega)]
 . rw [List.getElem?_eq_none (by rw [List.length_set,List.length_map,aY];omega),List.getElem?_eq_none (by rw [List.length_map,aY];omega)]
def bea (m:Int) (rs:List Road) (r:Int) (par:Int->Int) (dep:Int->Nat) (t:List Int) (v:Int):Option Int:=(t.filter fun b=>decide (par b=v/\wgt m rs r par dep b*tup rs par b=wgt m rs r par dep v)).getLast?
theorem MM {t:List Int} {v:Int} (h:wgt m rs r par dep v*tup rs par v=wgt m rs r par dep (par v)):bea m rs r par dep (t++[v])=fun x=>if x=par v then some v else bea m rs r par dep t x:=by
 funext x
 unfold bea;rw [List.filter_append];by_cases c:x=par v
 . subst c;rw [if_pos rfl,List.filter_cons_of_pos (by simpa using h),List.filter_nil,List.getLast?_append]
   rfl
 . rw [if_neg c,List.filter_cons_of_neg (by simp;intro z;exact absurd z.symm c),List.filter_nil,List.append_nil]
theorem NX {t:List Int} {v:Int} (h:¬ wgt m rs r par dep v*tup rs par v=wgt m rs r par dep (par v)):bea m rs r par dep (t++[v])=bea m rs r par dep t:=by
 funext x
 unfold bea;rw [List.filter_append,List.filter_cons_of_neg (by simp;intro z;rw [<- z];exact h),List.filter_nil,List.append_nil]
variable {ch:Int->Option Int} {w:Int} {cn:Int->Int}
end
end Pb
namespace L2
open PySem PySem.Spec PyProof.Rows PySem.W
section
variable {n:Nat}
variable (hn:0<n)
include hn
end
end L2
namespace L2
theorem Hm {κ:Type} [DecidableEq κ] {kvs:List (κ × V)} {k:κ} {v:V} {p:κ × V} (h:p∈cX kvs k v):p.1=k\/∃ q∈kvs,p.1=q.1:=by
 unfold cX at h;split at h
 . obtain ⟨q,hq,e⟩:=List.mem_map.mp h;refine .inr ⟨q,hq,?_⟩;rw [<- e];split <;> rfl
 . rcases List.mem_append.mp h with h|h
   . exact .inr ⟨p,h,rfl⟩
   . rw [List.mem_singleton.mp h];exact .inl rfl
end L2
namespace L2
open PySem PySem.Spec PyProof.Rows
def Oc (tk tv:TE):TE:=fun σ H Q=>∀ p,H p=none->uz [(tk,tv)] σ (upd H p (.dT [])) fun ps H2=>H2 p=some (.dT [])/\∃ (k:List Key) (b:Addr) (y:V),ps=[(.ref b,y)]/\H2 b=some (.tup (k.map kV))/\Q (.ref p) (upd H2 p (.dT [(k,y)]))
end L2
namespace L2
open PySem PySem.Spec PyProof.Rows
def Uz (_ j:Int):Prop:=j≠0/\j.natAbs.log2<9000
theorem NR {X:Cx}:OpR X (binaryOp .FloorDiv) (rI Uz fun i j=>.int (i.fdiv j)):=opI fun i j _ _ _ _ _ hc q=>PyProof.Rows.floordiv_int hc.1 q (.inl (PyProof.noPylong_of_log2 hc.2))
theorem Pa {j:Int} {n:Nat} (h0:j≠0) (h:j.natAbs<2^n) (hn:n<=9000):j.natAbs.log2<9000:=Nat.lt_of_lt_of_le ((Nat.log2_lt (by omega)).mpr h) hn
end L2
namespace L2
open PySem
theorem RA {K:PySem.W.Frag} {i j:Nat} {a:Addr} {x y:V} {σ:St} {H:Hp} {Q:St->Hp->Prop} (h:SqT K H a [x,y]) (q:Q ((σ.set i (some x)).set j (some y)) H):G5 K 2 (Bx (rO i) (Bx (rO j) gNil)) (.ref a) σ H Q :=
 ⟨a,_,rfl,h,rfl,_,_,rfl,_,_,rfl,rfl,q⟩
end L2
namespace L2
open PySem PySem.Spec PyProof.Rows PySem.W Pb
def Itd (d:Addr) (o:Obj) (kvs:List (List Key × V)):It :=
 ⟨fun i H=>H d=some (.frz o (.dT kvs))/\i<kvs.length,fun i H x H'=>H'=H/\∃ (q:Addr) (k:List Key) (v:V),x=.ref q/\kvs[i]?=some (k,v)/\H q=some (.tup (k.map kV)),fun i H=>H d=some (.frz o (.dT kvs))/\i=kvs.length⟩
def RD (tl:TE) (g:TG) (tb:TS):TS:=fun D σ H=>tl σ H fun x H1=>∃ (d:Addr) (kvs:List (List Key × V)),x=.ref d/\H1 d=some (.dT kvs) /\
 ∀ o,oN (Itd d o kvs) { D with nx:=fun σ' H'=>H' d=some (.frz o (.dT kvs))/\D.nx σ' (upd H' d (.dT kvs)) } g tb σ (upd H1 d (.frz o (.dT kvs)))
end L2
namespace L2
open PySem PySem.Spec PyProof.Rows PySem.W
def Its (z:Str):It:=⟨fun i _=>i<z.cps.size,fun i H x H'=>H'=H/\∃ c,z.cps[i]?=some c/\x=.str ⟨#[c]⟩,fun i _=>z.cps.size<=i⟩
section
variable {X:Cx} {tg:Expr}
def Tu (tl:TE):TI:=fun σ H R=>tl σ H fun x H1=>∃ z,x=.str z/\z.cps.all (·<128)=true/\R (Its z) H1
end
section
variable {X:Cx} {e:Expr} {te:TE} {p2 apos cpos pos2:Pos} {z:Str} {zp:Pos} {zk:Nat}
def NU (K:PySem.W.Frag) (z:Str) (te:TE):TE:=fun σ H Q=>te σ H fun x H1=>∃ (a:Addr) (ys:List Str),x=.ref a/\SqL K H1 a (ys.map V.str)/\(ys.map (·.length)).sum+ys.length*z.length<=16777216/\Q (.str (Str.join z ys.reverse)) H1
end
end L2
namespace Pb
open L2 PySem PySem.W NumText
theorem _root_.List.getElem?_map_some {α β:Type} {f:α->β} {l:List α} {i:Nat} {y:β} (h:(l.map f)[i]?=some y):∃ x,l[i]?=some x/\y=f x:=by
 rw [List.getElem?_map] at h;cases e:l[i]? with
 | none=>rw [e] at h;cases h
 | some x=>rw [e] at h;exact ⟨x,rfl,(Option.some.inj h).symm⟩
end Pb
namespace Pb
open L2 PySem
section
variable {m:Int} {rs:List Road} {r:Int} {par:Int->Int} {dep:Int->Nat} {held:Int->Int}
theorem Kh (R:Rooted m rs r par dep):∀ (n:Nat) (v:Int),dep v=n->0<=v->v<m->DC par r n v=true
 | 0,v,e,h0,h1=>by
   refine decide_eq_true (Classical.byContradiction fun h=>?_);have:=R.pos h0 h1 h;omega
 | n+1,v,e,h0,h1=>by
   show (decide (v=r) || DC par r n (par v))=true;by_cases h:v=r
   . rw [decide_eq_true h];rfl
   . have u:=R.up v h0 h1 h;rw [Kh R n (par v) (by omega) u.1.1 u.1.2,Bool.or_true]
theorem Oh (g:Good m rs) (R:Rooted m rs r par dep) (r0:0<=r) (r1:r<m):∃ t,bj m rs r par dep r=r::t/\Order m r par t :=
 CI g R r0 r1 (oC g R _ r r0 r1).1 fun v=>by
   rw [Sk g R r0 r1];exact ⟨fun h=>h.1,fun h=>⟨h,Kh R _ v rfl h.1 h.2⟩⟩
end
end Pb
namespace L2
open PySem PySem.Spec PyProof.Rows
section
variable {X:Cx}
theorem No {a:Expr} {ta:TE} (K:PySem.W.Frag) (h:X.K=K) (ha:PE X a ta) (he:∀ whole,isTrue a X.env whole=(do let v <- whole;standAt a.pos;holding [v] (truthy v))) :
   PT X a (fun σ H Q=>ta σ H fun x H'=>∃ k,Kz K x H' k/\Q k H'):=by subst h;exact rh ha he
end
end L2
namespace L2
open PySem
def Ou (K:PySem.W.Frag) (C':Addr) (ts:TS) (tr:TH):TH:=fun D σ cls od H=>∃ C b,cls=.ref C/\PySem.W.mroIn K C (.ref C')=some b/\if b=true then ts D σ H else tr D σ cls od H
end L2
namespace L2
open PySem PySem.Spec PyProof.Rows
section
variable {X:Cx}
def TM (t:TE):TE:=fun σ H Q=>t σ H fun x H1=>∃ b,x=.bl b/\Q (.bl (b == true)) H1
end
end L2
namespace L2
open PySem
theorem M9 {K:PySem.W.Frag} {c:Bool} {a p:Addr} {xs:List V} {Q:VK} {g:TG} {tc:TT} {te:TE} {σ0:St} {H0:Hp} (Pv:Nat->List V->St->Hp->Prop) (h0:Pv 0 [] σ0 H0) (hl:∀ i ys σ H,Pv i ys σ H->SqX K c H a xs)
   (hs:∀ (i:Nat) (x:V) (ys:List V) (σ:St) (H:Hp) (q:Addr) (N:List V->St->Hp->Prop),(∀ ys' σ' H',Pv (i+1) ys' σ' H'->N ys' σ' H')->xs[i]?=some x->Pv i ys σ H->H q=none->g (.ref q) σ (upd H q (.tup [.int i,x])) fun σ2 H2=>tc σ2 H2 fun b H3 =>
     if b=true then te σ2 H3 fun y H4=>H4 p=some (.lst ys)/\ys.length<sizeLine/\N (ys++[y]) σ2 (upd H4 p (.lst (ys++[y]))) else N ys σ2 H3)
   (hd:∀ ys σ H,Pv xs.length ys σ H->Q (.ref p) H):rA (Ite K c a) p Q g tc te σ0 H0:=by
 refine ⟨fun i m ys σ H=>m=xs.length - i/\i<=xs.length/\Pv i ys σ H,⟨_,rfl,Nat.zero_le _,h0⟩,?_⟩;rintro i m ys σ H ⟨rfl,hi,pv⟩;have q1:=hl i ys σ H pv;by_cases hlt:i<xs.length
 . refine .inr ⟨⟨xs,xs[i],q1,List.getElem?_eq_getElem hlt⟩,fun x H' y=>?_⟩;obtain ⟨p',x',hp,rfl,rfl,e1⟩:=y;exact hs i x' ys σ H p' (fun ys' σ' H'=>∃ m',m'<xs.length - i/\(m'=xs.length - (i+1)/\i+1<=xs.length/\Pv (i+1) ys' σ' H')) (fun ys' σ' H' pv'=>⟨xs.length - (i+1),by omega,rfl,hlt,pv'⟩) (e1 xs q1) pv hp
 . have e:i=xs.length:=by omega
   subst e;exact .inl ⟨⟨xs,q1,rfl⟩,hd ys σ H pv⟩
def Kpt (o:Addr) (H H':Hp):Prop:=∀ b x,H b=some x->b≠o->H' b=some x
theorem Kpt.refl {o:Addr} {H:Hp}:Kpt o H H:=fun _ _ h _=>h
theorem Kpt.trans {o:Addr} {H H1 H2:Hp} (a:Kpt o H H1) (b:Kpt o H1 H2):Kpt o H H2:=fun c x h n=>b c x (a c x h n) n
theorem Kpt.then {o:Addr} {H H1 H2:Hp} (a:Kpt o H H1) (b:Same H1 H2):Kpt o H H2:=fun c x h n=>b c x (a c x h n)
theorem Kpt.put {o:Addr} {H H1:Hp} (a:Kpt o H H1) (x:HO):Kpt o H (upd H1 o x):=fun c y h n=>by rw [ao n];exact a c y h n
end L2
namespace Pb
open PySem L2
abbrev kd (m:Int) (rs:List Road) (r:Int) (par:Int->Int) (v:Int):List Int:=aK m rs (front r par v) v
theorem yN {α β:Type} {R:α->β->Prop}:∀ {l:List α} {l':List β},Paired R l l'->∀ {i:Nat} {b:β},l'[i]?=some b->∃ a,l[i]?=some a/\R a b
 | _,_,.nil,i,b,e=>by simp at e
 | _,_,.cons (a:=a) (b:=b') h _,0,b,e=>by
   rw [List.getElem?_cons_zero] at e;cases e;exact ⟨a,rfl,h⟩
 | _,_,.cons h hs,i+1,b,e=>by
   rw [List.getElem?_cons_succ] at e;obtain ⟨a,h1,h2⟩:=yN hs e;exact ⟨a,by rw [List.getElem?_cons_succ];exact h1,h2⟩
theorem DA {α β:Type} {R S:α->β->Prop}:∀ {l:List α} {l':List β},(∀ a b,a∈l->R a b->S a b)->Paired R l l'->Paired S l l'
 | _,_,_,.nil=>.nil
 | _,_,f,.cons h hs=>.cons (f _ _ List.mem_cons_self h) (DA (fun a b ha=>f a b (List.mem_cons_of_mem _ ha)) hs)
theorem Ki {α β:Type} {R:α->β->Prop}:∀ {l:List α} {l':List β},Paired R l l'->∀ {a:α},a∈l->∃ b,R a b
 | _,_,.nil,a,h=>by cases h
 | _,_,.cons (b:=b) h hs,a,ha=>by
   rcases List.mem_cons.mp ha with rfl|ha
   . exact ⟨b,h⟩
   . exact Ki hs ha
theorem vy {α β:Type} {R:α->β->Prop} {a:α} {b:β} (e:R a b):∀ {l:List α} {l':List β},Paired R l l'->Paired R (l++[a]) (l'++[b])
 | _,_,.nil=>.cons e .nil
 | _,_,.cons x xs=>.cons x (vy e xs)
theorem Tz {α:Type} {xs:List α} {i:Int} (h:0<=i):atI xs i=xs[i.toNat]?:=by
 cases e:xs[i.toNat]? with
 | some v=>exact cL h e
 | none =>
   have:=List.getElem?_eq_none_iff.mp e;unfold atI ixN;rw [if_pos h,if_neg (by omega)]
   rfl
section
variable {m:Int} {rs:List Road} {r:Int} {par:Int->Int} {dep:Int->Nat} {nd:Int->Int}
theorem dQ (g:Good m rs) (R:Rooted m rs r par dep) {v:Int} (h0:0<=v) (h1:v<m) {k:Int} (hk:k∈kd m rs r par v):((0<=k/\k<m)/\k≠r/\par k=v)/\m.toNat - dep v=m.toNat - dep k+1/\1<=m.toNat - dep k:=by
 have w:=(ba g R h0 h1).mp hk;have:=R.pos w.1.1 w.1.2 w.2.1;have d:=yw R w.1.1 w.1.2;rw [w.2.2] at this;exact ⟨w,by omega,by omega⟩
end
end Pb
namespace L2
open PySem PySem.Spec PyProof.Rows
section
variable {X:Cx}
def RN (t:TE):TE:=fun σ H Q=>t σ H fun x H1=>∃ b,x=.bl b/\Q (.bl (b != false)) H1
end
end L2
namespace Pb
open PySem L2
section
variable {m:Int} {rs:List Road} {r:Int} {par:Int->Int} {dep:Int->Nat} {nd w:Int->Int}
theorem QE (g:Good m rs) {v:Int}:(kd m rs r par v).length<=24:=by
 have h1:=List.length_filter_le (fun u=>decide (V.int u≠front r par v)) (fU m rs v);have h2:=List.length_filter_le (fun q=>decide (q∈cw rs v)) (below m.toNat);rw [aY] at h2;have:=g.m24;show ((fU m rs v).filter fun u=>decide (V.int u≠front r par v)).length<=24;unfold fU at h1 ⊢;omega
end
end Pb
namespace L2
open PySem PySem.Spec PyProof.Rows
def RF (i j:Nat) (ta:TA):TS:=fun D σ H=>ta σ H fun vs H1=>∃ v w,vs=[v,w]/\D.nx ((σ.set i (some v)).set j (some w)) H1
end L2
namespace Pb
open PySem L2
theorem BA {α β:Type} {R:α->β->Prop}:∀ {l:List α} {l':List β} {b:β},Paired R l (l'++[b])->∃ l0 a,l=l0++[a]/\Paired R l0 l'/\R a b
 | _,[],b,.cons (a:=a) h .nil=>⟨[],a,rfl,.nil,h⟩
 | _,c::l',b,.cons (a:=a) h hs=>by
   obtain ⟨l0,x,rfl,h1,h2⟩:=BA hs;exact ⟨a::l0,x,rfl,.cons h h1,h2⟩
theorem SQ {α:Type} (l:List α) (x:α):atI (l++[x]) (-1)=some x:=by
 unfold atI ixN;rw [if_neg (by decide),List.length_append,List.length_cons,List.length_nil,if_pos (by omega)];show (l++[x])[(-1+((l.length+(0+1):Nat):Int)).toNat]?=some x;rw [show (-1+((l.length+(0+1):Nat):Int)).toNat=l.length by omega,List.getElem?_append_right (Nat.le_refl _),Nat.sub_self]
 rfl
end Pb
namespace Pb
open L2 PySem PySem.W NumText
theorem RX (zs:List V) {a b:Int} (a0:0<=a) (ab:a<=b):mw zs (some a) (some b)=(zs.drop a.toNat).take (b - a).toNat:=by
 unfold mw;have e1:HT.sIx zs.length 0 (some a)=min a.toNat zs.length:=by
   show (if a<0 then (a+(zs.length:Int)).toNat else min a.toNat zs.length)=_;rw [if_neg (by omega)]
 have e2:HT.sIx zs.length zs.length (some b)=min b.toNat zs.length:=by
   show (if b<0 then (b+(zs.length:Int)).toNat else min b.toNat zs.length)=_;rw [if_neg (by omega)]
 have e3:zs.drop (min a.toNat zs.length)=zs.drop a.toNat:=by
   by_cases c:a.toNat<=zs.length
   . rw [Nat.min_eq_left c]
   . rw [Nat.min_eq_right (by omega),List.drop_of_length_le (Nat.le_refl _),List.drop_of_length_le (by omega)]
 rw [e1,e2,e3,List.take_eq_take_iff,List.length_drop];omega
end Pb
namespace Pb
open L2 PySem PySem.W NumText
def ch:Nat->Nat->Nat
 | _,0=>1
 | 0,_+1=>0
 | n+1,k+1=>ch n k+ch n (k+1)
theorem gw (n:Nat):ch n 0=1:=by cases n <;> rfl
theorem y8:∀ n k:Nat,(ch n (k+1):Int)*((k:Int)+1)=(ch n k:Int)*((n:Int) - (k:Int))
 | 0,0=>by simp [ch]
 | 0,k+1=>by simp [ch]
 | n+1,0=>by
   have h:=y8 n 0;rw [gw] at h ⊢;show ((ch n 0+ch n 1:Nat):Int)*_=_;rw [gw];have h:((ch n 1:Nat):Int)*(((0:Nat):Int)+1)=((1:Nat):Int)*((n:Int) - ((0:Nat):Int)):=h;simp only [Int.natCast_add,Int.natCast_one] at h ⊢;omega
 | n+1,k+1=>by
   have h1:=y8 n k;have h2:=y8 n (k+1);show ((ch n (k+1)+ch n (k+1+1):Nat):Int)*_=((ch n k+ch n (k+1):Nat):Int)*_;generalize ch n (k+1+1)=c at h1 h2;generalize ch n (k+1)=b at h1 h2;generalize ch n k=a at h1 h2;simp only [Int.natCast_add,Int.natCast_one] at h1 h2 ⊢;have e1:((b:Int)+(c:Int))*((k:Int)+1+1)=(c:Int)*((k:Int)+1+1)+(b:Int)*((k:Int)+1)+(b:Int):=by
     rw [Int.add_mul,Int.mul_add (b:Int) ((k:Int)+1) 1];omega
   have e2:((a:Int)+(b:Int))*((n:Int)+1 - ((k:Int)+1))=(a:Int)*((n:Int) - (k:Int))+(b:Int)*((n:Int) - ((k:Int)+1))+(b:Int):=by
     rw [show (n:Int)+1 - ((k:Int)+1)=(n:Int) - (k:Int) by omega,Int.add_mul,show (n:Int) - (k:Int)=((n:Int) - ((k:Int)+1))+1 by omega,Int.mul_add (b:Int) _ 1];omega
   rw [e1,e2,h1,h2];omega
def nwS:List Int->Nat->Nat->Int
 | [],_,_=>0
 | d::r,n,k=>d*(ch n k:Int)+nwS r n (k+1)
theorem vo:∀ (r:List Int) (k:Nat),nwS r 0 (k+1)=0
 | [],_=>rfl
 | d::r,k=>by
   show d*((ch 0 (k+1):Nat):Int)+nwS r 0 (k+1+1)=0;rw [vo r (k+1)];show d*((0:Nat):Int)+0=0;simp
theorem vF:∀ (r:List Int) (n k:Nat),nwS r (n+1) (k+1)=nwS r n (k+1)+nwS r n k
 | [],_,_=>rfl
 | d::r,n,k=>by
   show d*((ch n k+ch n (k+1):Nat):Int)+nwS r (n+1) (k+1+1)=(d*(ch n (k+1):Int)+nwS r n (k+1+1))+(d*(ch n k:Int)+nwS r n (k+1));rw [vF r n (k+1),Int.natCast_add,Int.mul_add];omega
theorem Hs:∀ (r:List Int) (d:Int) (n k:Nat),nwS (r++[d]) n k=nwS r n k+d*(ch n (k+r.length):Int)
 | [],d,n,k=>by
   show d*(ch n k:Int)+0=0+d*(ch n (k+0):Int);rw [Nat.add_zero];omega
 | x::r,d,n,k=>by
   show x*(ch n k:Int)+nwS (r++[d]) n (k+1)=x*(ch n k:Int)+nwS r n (k+1)+d*(ch n (k+(r.length+1)):Int);rw [Hs r d n (k+1),show k+1+r.length=k+(r.length+1) by omega];omega
def dl (f:Nat->Int):Nat->Int:=fun n=>f (n+1) - f n
def Pd:Nat->(Nat->Int)->Prop
 | 0,f=>∀ n,f n=f 0
 | d+1,f=>Pd d (dl f)
def dfs:Nat->(Nat->Int)->List Int
 | 0,_=>[]
 | N+1,f=>f 0::dfs N (dl f)
theorem yY:∀ (N:Nat) (f:Nat->Int),(dfs N f).length=N
 | 0,_=>rfl
 | N+1,f=>by
   show (dfs N (dl f)).length+1=_;rw [yY N]
theorem Pd.zero {f:Nat->Int} (h:∀ n,f n=0):∀ d,Pd d f
 | 0=>fun n=>by rw [h n,h 0]
 | d+1=>Pd.zero (f:=dl f) (fun n=>by show f (n+1) - f n=0;rw [h,h];rfl) d
theorem Pd.up:∀ {d:Nat} {f:Nat->Int},Pd d f->Pd (d+1) f
 | 0,f,h=>fun n=>by
   show f (n+1) - f n=f (0+1) - f 0;rw [h (n+1),h n,h (0+1)]
 | d+1,f,h=>Pd.up (d:=d) (f:=dl f) h
theorem Pd.le {d e:Nat} {f:Nat->Int} (h:Pd d f) (l:d<=e):Pd e f:=by
 induction l with
 | refl=>exact h
 | step _ ih=>exact ih.up
theorem Pd.add:∀ {d:Nat} {f g:Nat->Int},Pd d f->Pd d g->Pd d (fun n=>f n+g n)
 | 0,f,g,h,k=>fun n=>by
   show f n+g n=f 0+g 0;rw [h n,k n]
 | d+1,f,g,h,k=>by
   have:=Pd.add (d:=d) (f:=dl f) (g:=dl g) h k;have e:dl (fun n=>f n+g n)=fun n=>dl f n+dl g n:=by
     funext n
     show f (n+1)+g (n+1) - (f n+g n)=(f (n+1) - f n)+(g (n+1) - g n);omega
   show Pd d (dl (fun n=>f n+g n));rw [e];exact this
theorem Pd.smul (c:Int):∀ {d:Nat} {f:Nat->Int},Pd d f->Pd d (fun n=>c*f n)
 | 0,f,h=>fun n=>by
   show c*f n=c*f 0;rw [h n]
 | d+1,f,h=>by
   have:=Pd.smul c (d:=d) (f:=dl f) h;have e:dl (fun n=>c*f n)=fun n=>c*dl f n:=by
     funext n
     show c*f (n+1) - c*f n=c*(f (n+1) - f n);rw [Int.mul_sub]
   show Pd d (dl (fun n=>c*f n));rw [e];exact this
theorem Pd.shift (b:Nat):∀ {d:Nat} {f:Nat->Int},Pd d f->Pd d (fun n=>f (n+b))
 | 0,f,h=>fun n=>by
   show f (n+b)=f (0+b);rw [h (n+b),h (0+b)]
 | d+1,f,h=>by
   have:=Pd.shift b (d:=d) (f:=dl f) h;have e:dl (fun n=>f (n+b))=fun n=>dl f (n+b):=by
     funext n
     show f (n+1+b) - f (n+b)=f (n+b+1) - f (n+b);rw [show n+1+b=n+b+1 by omega]
   show Pd d (dl (fun n=>f (n+b)));rw [e];exact this
def smN:Nat->(Nat->Int)->Int
 | 0,_=>0
 | k+1,f=>smN k f+f k
theorem Pd.sum {d:Nat} {f:Nat->Nat->Int} (h:∀ i,Pd d (f i)):∀ k,Pd d (fun n=>smN k fun i=>f i n)
 | 0=>Pd.zero (fun _=>rfl) d
 | k+1=>(Pd.sum h k).add (h k)
theorem Ka (f:Nat->Int) (b:Nat):∀ a:Nat,f (b+a) - f b=smN a fun i=>dl f (b+i)
 | 0=>by
   show f b - f b=0;omega
 | a+1=>by
   have:=Ka f b a;show f (b+(a+1)) - f b=(smN a fun i=>dl f (b+i))+dl f (b+a);rw [<- this];show f (b+(a+1)) - f b=f (b+a) - f b+(f (b+a+1) - f (b+a));rw [show b+(a+1)=b+a+1 by omega];omega
theorem Pd.lin (a:Nat):∀ {d:Nat} {f:Nat->Int},Pd d f->∀ b,Pd d (fun n=>f (a*n+b))
 | 0,f,h,b=>fun n=>by
   show f (a*n+b)=f (a*0+b);rw [h (a*n+b),h (a*0+b)]
 | d+1,f,h,b=>by
   have e:dl (fun n=>f (a*n+b))=fun n=>smN a fun i=>(fun i n=>dl f (a*n+(b+i))) i n:=by
     funext n
     show f (a*(n+1)+b) - f (a*n+b)=_;rw [show a*(n+1)+b=(a*n+b)+a by rw [Nat.mul_add];omega,Ka f (a*n+b) a]
     congr 1
     funext i
     show dl f (a*n+b+i)=dl f (a*n+(b+i));rw [Nat.add_assoc]
   show Pd d (dl (fun n=>f (a*n+b)));rw [e];exact Pd.sum (fun i=>Pd.lin a (d:=d) (f:=dl f) h (b+i)) a
def cnv (f g:Nat->Int) (n:Nat):Int:=smN (n+1) fun k=>f k*g (n - k)
theorem jF {f g:Nat->Int}:∀ {k:Nat},(∀ i,i<k->f i=g i)->smN k f=smN k g
 | 0,_=>rfl
 | k+1,h=>by
   show smN k f+f k=smN k g+g k;rw [jF fun i hi=>h i (by omega),h k (by omega)]
theorem Km (f g:Nat->Int):∀ k,smN k (fun i=>f i - g i)=smN k f - smN k g
 | 0=>rfl
 | k+1=>by
   show smN k (fun i=>f i - g i)+(f k - g k)=smN k f+f k - (smN k g+g k);rw [Km f g k];omega
theorem NV (f g:Nat->Int):dl (cnv f g)=fun n=>f (n+1)*g 0+cnv f (dl g) n:=by
 funext n
 show (smN (n+1) fun k=>f k*g (n+1 - k))+f (n+1)*g (n+1 - (n+1)) - smN (n+1) (fun k=>f k*g (n - k))=f (n+1)*g 0+smN (n+1) fun k=>f k*dl g (n - k);have e:(smN (n+1) fun k=>f k*dl g (n - k))=smN (n+1) fun k=>f k*g (n+1 - k) - f k*g (n - k):=jF fun i hi=>by
   show f i*(g (n - i+1) - g (n - i))=_;rw [Int.mul_sub,show n - i+1=n+1 - i by omega]
 rw [e,Km,Nat.sub_self];omega
theorem Pd.cnv {f:Nat->Int} {d:Nat} (hf:Pd d f):∀ {e:Nat} {g:Nat->Int},Pd e g->Pd (d+e+1) (cnv f g)
 | 0,g,hg=>by
   show Pd d (dl (Pb.cnv f g));rw [NV];refine Pd.add ?_ (Pd.zero (fun n=>?_) d)
   . have:=(hf.shift 1).smul (g 0);have e:(fun n=>g 0*f (n+1))=fun n=>f (n+1)*g 0:=by
       funext n
       exact Int.mul_comm ..
     rw [e] at this;exact this
   . have z:∀ m,dl g m=0:=fun m=>by
       show g (m+1) - g m=0;rw [hg (m+1),hg m];omega
     have:=jF (k:=n+1) (f:=fun k=>f k*dl g (n - k)) (g:=fun _=>0) fun i _=>by rw [z];simp
     show smN (n+1) (fun k=>f k*dl g (n - k))=0;rw [this];clear this
     induction n+1 with
     | zero=>rfl
     | succ k ih=>show smN k (fun _=>0)+0=0;rw [ih];rfl
 | e+1,g,hg=>by
   show Pd (d+e+1) (dl (Pb.cnv f g));rw [NV];refine Pd.add ?_ (Pd.cnv hf (e:=e) (g:=dl g) hg);have:=((hf.shift 1).smul (g 0)).le (show d<=d+e+1 by omega);have e:(fun n=>g 0*f (n+1))=fun n=>f (n+1)*g 0:=by
     funext n
     exact Int.mul_comm ..
   rw [e] at this;exact this
theorem xI:∀ (N:Nat) {d:Nat} {f:Nat->Int},Pd d f->d<N->∀ n,nwS (dfs N f) n 0=f n
 | 0,_,_,_,h,_=>absurd h (Nat.not_lt_zero _)
 | N+1,d,f,hf,_,n=>by
   have ih:∀ n,nwS (dfs N (dl f)) n 0=dl f n:=by
     intro n;cases d with
     | zero =>
       have z:∀ m,dl f m=0:=fun m=>by
         show f (m+1) - f m=0;rw [hf (m+1),hf m];omega
       cases N with
       | zero=>rw [z];rfl
       | succ N=>exact xI (N+1) (Pd.zero z 0) (by omega) n
     | succ d=>exact xI N (d:=d) (f:=dl f) hf (by omega) n
   show f 0*(ch n 0:Int)+nwS (dfs N (dl f)) n (0+1)=f n;rw [gw]
   induction n with
   | zero =>
     rw [vo];simp
   | succ n ihn =>
     rw [vF,ih n];show f 0*((1:Nat):Int)+(nwS (dfs N (dl f)) n (0+1)+(f (n+1) - f n))=f (n+1);omega
theorem sy:∀ {N:Nat} {f g:Nat->Int},(∀ i,i<N->f i=g i)->dfs N f=dfs N g
 | 0,_,_,_=>rfl
 | N+1,f,g,h=>by
   show f 0::dfs N (dl f)=g 0::dfs N (dl g);rw [h 0 (by omega),sy (N:=N) (f:=dl f) (g:=dl g) fun i hi=>by
     show f (i+1) - f i=g (i+1) - g i;rw [h i (by omega),h (i+1) (by omega)]]
def dfl (xs:List Int):List Int:=dfs xs.length fun i=>xs.getD i 0
def nxr (xs:List Int):List Int:=(xs.zip (xs.drop 1)).map fun p=>p.2 - p.1
theorem DW (xs:List Int):(nxr xs).length=xs.length - 1:=by
 unfold nxr;rw [List.length_map,List.length_zip,List.length_drop];omega
theorem Ub {xs:List Int} {i:Nat} (h:i+1<xs.length):(nxr xs).getD i 0=xs.getD (i+1) 0 - xs.getD i 0:=by
 unfold nxr;rw [List.getD_eq_getElem?_getD,List.getElem?_map,List.getElem?_eq_getElem (by rw [List.length_zip,List.length_drop];omega)];simp [List.getD_eq_getElem?_getD,h,show i<xs.length by omega,Nat.add_comm]
theorem OJ (x:Int) (r:List Int):dfl (x::r)=x::dfl (nxr (x::r)):=by
 unfold dfl;rw [DW];show x::dfs r.length _=x::dfs (r.length+1 - 1) _;rw [Nat.add_sub_cancel]
 congr 1
 exact sy fun i hi=>(Ub (xs:=x::r) (by simpa using hi)).symm
theorem Mj:∀ n k:Nat,ch n k<=2^n
 | 0,0=>Nat.le_refl _
 | 0,_+1=>Nat.zero_le _
 | n+1,0=>by rw [gw];exact Nat.one_le_two_pow
 | n+1,k+1=>by
   have h1:=Mj n k;have h2:=Mj n (k+1);show ch n k+ch n (k+1)<=2^(n+1);rw [Nat.pow_succ];omega
theorem JT (f:Nat->Int):∀ k,((List.range k).map f).sum=smN k f
 | 0=>rfl
 | k+1=>by
   rw [List.range_succ,List.map_append,List.sum_append,JT f k];show smN k f+(f k+0)=smN k f+f k;omega
def BIG:Nat:=2^200000
theorem hG {n k:Nat} (h:n<=2^k) (hk:k<200000):n<BIG:=by
 unfold BIG;exact Nat.lt_of_le_of_lt h (Nat.pow_lt_pow_right (by decide) hk)
theorem jY {a b:Int} (ha:a.natAbs<BIG) (hb:b.natAbs<BIG):IntMulOk a b:=by
 unfold BIG at ha hb;exact IntMulOk.of_bits (Nat.le_trans (JN ha) (by decide)) (Nat.le_trans (JN hb) (by decide))
theorem TQ {n k:Nat} (h:n<=100000):ch n k<BIG:=hG (Mj n k) (by omega)
theorem FS:∀ n k:Nat,ch n k<=(n+1)^k
 | n,0=>by rw [gw];exact Nat.le_refl _
 | 0,k+1=>Nat.zero_le _
 | n+1,k+1=>by
   have h1:=FS n k;have h2:=FS n (k+1);have h3:(n+1)^k<=(n+1+1)^k:=Nat.pow_le_pow_left (by omega) k;show ch n k+ch n (k+1)<=(n+1+1)^(k+1);rw [Nat.pow_succ] at h2;rw [Nat.pow_succ,Nat.mul_succ];have h4:(n+1)^k*(n+1)<=(n+1+1)^k*(n+1):=Nat.mul_le_mul_right _ h3;omega
theorem J6 {n x k:Nat} (h:n+1<=2^x) (hk:x*k<200000):ch n k<BIG:=hG (k:=x*k) (Nat.le_trans (FS n k) (by rw [Nat.pow_mul];exact Nat.pow_le_pow_left h k)) hk
end Pb
namespace Pb
open L2 PySem PySem.W NumText
def rst (fr be:Int->Bool) (ws:Int->Nat->Int):List Int->Nat->Int
 | [],_=>1
 | k::ks,n=>if fr k=true then cnv (ws k) (rst fr be ws ks) n else if be k=true then ws k n*rst fr be ws ks 0 else ws k 0*rst fr be ws ks n
variable {fr be:Int->Bool} {ws:Int->Nat->Int}
theorem nV {k:Int} {ks:List Int} (h:fr k=true):rst fr be ws (k::ks)=cnv (ws k) (rst fr be ws ks):=by
 funext n
 show (if fr k=true then _ else _)=_;rw [if_pos h]
theorem nY {k:Int} {ks:List Int} (h:¬ fr k=true) (h2:be k=true):rst fr be ws (k::ks)=fun n=>ws k n*rst fr be ws ks 0:=by
 funext n
 show (if fr k=true then _ else _)=_;rw [if_neg h,if_pos h2]
theorem nI {k:Int} {ks:List Int} (h:¬ fr k=true) (h2:¬ be k=true):rst fr be ws (k::ks)=fun n=>ws k 0*rst fr be ws ks n:=by
 funext n
 show (if fr k=true then _ else _)=_;rw [if_neg h,if_neg h2]
theorem Ny {d:Int->Nat}:∀ {ks:List Int},(∀ k∈ks,Pd (d k) (ws k))->Pd ((ks.map fun k=>d k+1).sum) (rst fr be ws ks)
 | [],_=>fun _=>rfl
 | k::ks,h=>by
   have h1:=h k (.head _);have h2:=Ny (ks:=ks) fun x hx=>h x (.tail _ hx);rw [List.map_cons,List.sum_cons];by_cases f:fr k=true
   . rw [nV f];exact (Pd.cnv h1 h2).le (by omega)
   . by_cases b:be k=true
     . rw [nY f b];have:=(h1.smul (rst fr be ws ks 0)).le (show d k<=d k+1+(ks.map fun k=>d k+1).sum by omega);have e:(fun n=>rst fr be ws ks 0*ws k n)=fun n=>ws k n*rst fr be ws ks 0:=by
         funext n
         exact Int.mul_comm ..
       rw [e] at this;exact this
     . rw [nI f b];exact (h2.smul (ws k 0)).le (by omega)
theorem JR {f:Nat->Int} {B:Int}:∀ {k:Nat},(∀ i,i<k->0<=f i/\f i<=B)->0<=smN k f/\smN k f<=k*B
 | 0,_=>⟨Int.le_refl _,by show (0:Int)<=((0:Nat):Int)*B;simp⟩
 | k+1,h=>by
   obtain ⟨h1,h2⟩:=JR (k:=k) fun i hi=>h i (by omega);obtain ⟨g1,g2⟩:=h k (by omega);show 0<=smN k f+f k/\smN k f+f k<=((k+1:Nat):Int)*B;rw [Int.natCast_succ,Int.add_mul,Int.one_mul];omega
theorem y9 {a b A B:Int} (h1:0<=a/\a<=A) (h2:0<=b/\b<=B):0<=a*b/\a*b<=A*B :=
 ⟨Int.mul_nonneg h1.1 h2.1,Int.mul_le_mul h1.2 h2.2 h2.1 (Int.le_trans h1.1 h1.2)⟩
theorem SD {f g:Nat->Int} {A B:Int} {n:Nat} (h1:∀ i,i<=n->0<=f i/\f i<=A) (h2:∀ i,i<=n->0<=g i/\g i<=B):0<=cnv f g n/\cnv f g n<=((n+1:Nat):Int)*(A*B) :=
 JR fun i hi=>y9 (h1 i (by omega)) (h2 (n - i) (by omega))
theorem jd (n:Nat):(0:Int)<2^n:=Int.pow_pos (by decide)
theorem Bb {X x:Nat} (hx:((X+1:Nat):Int)<=2^x) {a:Int->Nat}:∀ {ks:List Int},(∀ k∈ks,∀ i,i<=X->0<=ws k i/\ws k i<=2^a k)->∀ n,n<=X->0<=rst fr be ws ks n/\rst fr be ws ks n<=2^(ks.map fun k=>x+a k).sum
 | [],_,n,_=>⟨by show (0:Int)<=1;decide,by show (1:Int)<=2^0;decide⟩
 | k::ks,h,n,hn=>by
   have h1:=h k (.head _);have h2:=Bb hx (ks:=ks) fun x hx=>h x (.tail _ hx);rw [List.map_cons,List.sum_cons,Int.pow_add,Int.pow_add];have px:=jd x;have up:∀ {u:Int},0<=u/\u<=2^a k*2^(ks.map fun k=>x+a k).sum->0<=u/\u<=2^x*2^a k*2^(ks.map fun k=>x+a k).sum:=fun {u} hu=>by
     refine ⟨hu.1,?_⟩;rw [Int.mul_assoc];have:=(y9 (a:=1) (A:=2^x) (b:=u) ⟨by decide,by omega⟩ hu).2;rw [Int.one_mul] at this;exact this
   by_cases f:fr k=true
   . rw [nV f];obtain ⟨g1,g2⟩:=SD (n:=n) (fun i hi=>h1 i (by omega)) (fun i hi=>h2 i (by omega));refine ⟨g1,Int.le_trans g2 ?_⟩;rw [Int.mul_assoc];refine Int.mul_le_mul_of_nonneg_right (by omega) (Int.mul_nonneg (Int.le_of_lt (jd _)) (Int.le_of_lt (jd _)))
   . by_cases b:be k=true
     . rw [nY f b];exact up (y9 (h1 n hn) (h2 0 (by omega)))
     . rw [nI f b];exact up (y9 (h1 0 (by omega)) (h2 n hn))
theorem Gp:∀ {N:Nat} {f:Nat->Int} {b:Nat},(∀ i,i<N->(f i).natAbs<=2^b)->∀ c∈dfs N f,c.natAbs<=2^(b+N)
 | 0,_,_,_,c,hc=>by cases hc
 | N+1,f,b,h,c,hc=>by
   rcases List.mem_cons.mp (show c∈f 0::dfs N (dl f) from hc) with rfl|hc
   . exact Nat.le_trans (h 0 (by omega)) (Nat.pow_le_pow_right (by decide) (by omega))
   . have:=Gp (N:=N) (f:=dl f) (b:=b+1) (fun i hi=>by
       have h1:=h i (by omega);have h2:=h (i+1) (by omega);show (f (i+1) - f i).natAbs<=2^(b+1);rw [Nat.pow_succ];omega) c hc
     rw [show b+1+N=b+(N+1) by omega] at this;exact this
def tx (d:Nat) (W:Nat->Int):Prop:=Pd d W/\∀ x n,((n+1:Nat):Int)<=2^x->0<=W n/\W n<=2^(d*(x+20*d))
def hld (c:Nat) (g:Nat):Nat:=(g+1)*c - 1
theorem uk {c g:Nat} (h:1<=c):hld c g=c*g+(c - 1):=by
 unfold hld;rw [Nat.add_mul,Nat.mul_comm];omega
theorem OY {a b:Nat} (h:a<=b):(2:Int)^a<=2^b:=by
 obtain ⟨k,rfl⟩:∃ k,b=a+k:=⟨b - a,by omega⟩;rw [Int.pow_add];have:=Int.mul_le_mul_of_nonneg_left (show (1:Int)<=2^k from jd k) (Int.le_of_lt (jd a));rw [Int.mul_one] at this;exact this
theorem tQ {f g:Int->Nat} {y:Nat}:∀ {ks:List Int},(∀ k∈ks,f k<=g k*y)->(ks.map f).sum<=(ks.map g).sum*y
 | [],_=>by simp
 | k::ks,h=>by
   have h1:=h k (.head _);have h2:=tQ (ks:=ks) fun x hx=>h x (.tail _ hx);rw [List.map_cons,List.sum_cons,List.map_cons,List.sum_cons,Nat.add_mul];omega
theorem mX {g:Int->Nat}:∀ {ks:List Int} {k:Int},k∈ks->g k<=(ks.map g).sum
 | k'::ks,k,h=>by
   rw [List.map_cons,List.sum_cons];rcases List.mem_cons.mp h with rfl|h
   . omega
   . have:=mX (g:=g) h;omega
theorem D1 {W:Int->Nat->Int} {c d:Int->Nat} {ks:List Int} (h:∀ k∈ks,tx (d k) (W k)) (hc:∀ k∈ks,1<=c k/\c k<=1000000):tx (ks.map fun k=>d k+1).sum (rst fr be (fun k g=>W k (hld (c k) g)) ks):=by
 refine ⟨Ny fun k hk=>?_,fun x n hn=>?_⟩
 . have:=(h k hk).1.lin (c k) (c k - 1);have e:(fun g=>W k (hld (c k) g))=fun g=>W k (c k*g+(c k - 1)):=by
     funext g
     rw [uk (hc k hk).1]
   rw [e];exact this
 . have key:=Bb (fr:=fr) (be:=be) (ws:=fun k g=>W k (hld (c k) g)) (X:=n) (x:=x) hn (a:=fun k=>d k*(x+20+20*d k)) (ks:=ks) (fun k hk i hi=>by
     refine (h k hk).2 (x+20) (hld (c k) i) ?_;have h1:=(hc k hk).1;have h2:=(hc k hk).2;have e:hld (c k) i+1=(i+1)*c k:=by
       unfold hld;have:1<=(i+1)*c k:=Nat.mul_le_mul (show 1<=i+1 by omega) h1;omega
     rw [e,Int.natCast_mul,Int.pow_add];exact Int.mul_le_mul (by omega) (by have:(2:Int)^20=1048576:=rfl;omega) (Int.natCast_nonneg _) (Int.le_of_lt (jd x))) n (Nat.le_refl _)
   refine ⟨key.1,Int.le_trans key.2 ?_⟩;refine OY (tQ fun k hk=>?_);have dk:=mX (g:=fun k=>d k+1) hk;generalize (ks.map fun k=>d k+1).sum=D at dk;have e1:x+d k*(x+20+20*d k)=x+d k*x+d k*(20+20*d k):=by rw [show x+20+20*d k=x+(20+20*d k) by omega,Nat.mul_add];omega
   have e2:(d k+1)*(x+20*D)=x+d k*x+(d k+1)*(20*D):=by rw [Nat.mul_add,Nat.add_mul];omega
   have e3:d k*(20+20*d k)<=(d k+1)*(20*D):=Nat.mul_le_mul (by omega) (by omega);omega
structure CsOk (b:Nat) (cs:List Int) (f:Nat->Int):Prop where
 ne:cs≠[]
 len:cs.length<=24
 bt:∀ c∈cs,c.natAbs<=2^b
 val:∀ n,nwS cs n 0=f n
theorem SA:∀ (x:Int) (r:List Int),nwS (x::r) 0 0=x:=fun x r=>by
 show x*((1:Nat):Int)+nwS r 0 (0+1)=x;rw [vo];simp
theorem CsOk.head {b:Nat} {cs:List Int} {f:Nat->Int} (h:CsOk b cs f):∃ r,cs=f 0::r:=by
 obtain ⟨ne,_,_,v⟩:=h;cases cs with
 | nil=>exact absurd rfl ne
 | cons x r=>exact ⟨r,by rw [<- v 0,SA]⟩
theorem CsOk.one:CsOk 0 [1] (rst fr be ws []):=⟨by simp,by simp,fun c hc=>by rw [List.mem_singleton.mp hc];decide,fun n=>by
 show 1*((ch n 0:Nat):Int)+0=1;rw [gw]
 rfl⟩
theorem GL (a:Int):∀ (cs:List Int) (n k:Nat),nwS (cs.map fun c=>a*c) n k=a*nwS cs n k
 | [],_,_=>by show (0:Int)=a*0;simp
 | c::cs,n,k=>by
   show a*c*(ch n k:Int)+nwS (cs.map fun c=>a*c) n (k+1)=a*(c*(ch n k:Int)+nwS cs n (k+1));rw [GL a cs,Int.mul_add,Int.mul_assoc]
theorem CsOk.dfl {f:Nat->Int} {N d b:Nat} (hf:Pd d f) (hd:d<N) (hN:N<=24) (hb:∀ i,i<N->(f i).natAbs<=2^b):CsOk (b+N) (dfl ((List.range N).map f)) f:=by
 have e:Pb.dfl ((List.range N).map f)=dfs N f:=by
   unfold Pb.dfl;rw [List.length_map,List.length_range];refine sy fun i hi=>?_;rw [List.getD_eq_getElem?_getD,List.getElem?_map,List.getElem?_range hi]
   rfl
 rw [e];refine ⟨fun z=>?_,by rw [yY];exact hN,Gp hb,xI N hf hd⟩;have:=yY N f;rw [z] at this;simp at this;omega
def sfx:List Int->List (List Int)
 | []=>[[]]
 | k::ks=>(k::ks)::sfx ks
theorem Kg:∀ ks:List Int,(sfx ks).reverse=(List.range (ks.length+1)).map fun j=>ks.drop (ks.length - j)
 | []=>rfl
 | k::ks=>by
   show ((k::ks)::sfx ks).reverse=_;rw [List.reverse_cons,Kg ks,List.range_succ (n:=(k::ks).length),List.map_append,List.map_cons,List.map_nil,Nat.sub_self,List.drop_zero]
   congr 1
   refine List.map_congr_left fun j hj=>?_;have:=List.mem_range.mp hj;rw [List.length_cons,show ks.length+1 - j=(ks.length - j)+1 by omega,List.drop_succ_cons]
theorem CsOk.le {b b':Nat} {cs:List Int} {f:Nat->Int} (h:CsOk b cs f) (l:b<=b'):CsOk b' cs f:=⟨h.ne,h.len,fun c hc=>Nat.le_trans (h.bt c hc) (Nat.pow_le_pow_right (by decide) l),h.val⟩
def bts (d:Int->Nat) (ks:List Int):Nat:=(ks.map fun k=>d k*(25+20*d k)+29).sum
theorem B0 {d:Int->Nat} {ks:List Int} (h:(ks.map fun k=>d k+1).sum<=23):bts d ks<=15000:=by
 have:bts d ks<=(ks.map fun k=>d k+1).sum*514:=tQ fun k hk=>by
   have:=mX (g:=fun k=>d k+1) hk;have h1:d k*(25+20*d k)<=d k*485:=Nat.mul_le_mul_left _ (by omega);rw [Nat.add_mul];omega
 omega
theorem AU (g:Int->Nat) (ks:List Int) (j:Nat):((ks.drop j).map g).sum<=(ks.map g).sum:=by
 have:=congrArg (fun l=>(l.map g).sum) (List.take_append_drop j ks);simp only [List.map_append,List.sum_append] at this;omega
theorem D8 {W:Int->Nat->Int} {c d:Int->Nat} {ks:List Int} {N:Nat} (hN:N<=24) (h:∀ k∈ks,tx (d k) (W k)) (hc:∀ k∈ks,1<=c k/\c k<=1000000):∀ i,i<N->0<=rst fr be (fun k g=>W k (hld (c k) g)) ks i/\rst fr be (fun k g=>W k (hld (c k) g)) ks i<=2^(ks.map fun k=>5+d k*(25+20*d k)).sum:=by
 intro i hi;refine Bb (X:=23) (x:=5) (by decide) (a:=fun k=>d k*(25+20*d k)) (fun k hk j hj=>?_) i (by omega);refine (h k hk).2 25 (hld (c k) j) ?_;have h1:=(hc k hk).1;have h2:=(hc k hk).2;have e:hld (c k) j+1=(j+1)*c k:=by
   unfold hld;have:1<=(j+1)*c k:=Nat.mul_le_mul (show 1<=j+1 by omega) h1;omega
 have h3:(j+1)*c k<=24*1000000:=Nat.mul_le_mul (by omega) h2;have h4:(2:Int)^25=33554432:=rfl;rw [e,h4];omega
theorem Gf {W:Nat->Int} {c d:Nat} (h:tx d W) (h1:1<=c) (h2:c<=1000000) {j:Nat} (hj:j<24):0<=W (hld c j)/\W (hld c j)<=2^(d*(25+20*d)):=by
 refine h.2 25 (hld c j) ?_;have e:hld c j+1=(j+1)*c:=by
   unfold hld;have:1<=(j+1)*c:=Nat.mul_le_mul (show 1<=j+1 by omega) h1;omega
 have h3:(j+1)*c<=24*1000000:=Nat.mul_le_mul (by omega) h2;have h4:(2:Int)^25=33554432:=rfl;rw [e,h4];omega
theorem md {z:Int} {b:Nat} (h:0<=z/\z<=2^b):z.natAbs<=2^b:=by
 have:((2^b:Nat):Int)=(2:Int)^b:=by simp
 omega
theorem vQ (d:Int->Nat) (k:Int) (ks:List Int):bts d (k::ks)=d k*(25+20*d k)+29+bts d ks:=by
 unfold bts;rw [List.map_cons,List.sum_cons]
theorem Dl (d:Int->Nat):∀ ks:List Int,(ks.map fun k=>5+d k*(25+20*d k)).sum<=bts d ks
 | []=>Nat.le_refl _
 | k::ks=>by
   have:=Dl d ks;rw [vQ,List.map_cons,List.sum_cons];omega
theorem Ol {W:Int->Nat->Int} {c d:Int->Nat} {k:Int} {S:List Int} {N:Nat} (hN:N<=24) (h:∀ x∈k::S,tx (d x) (W x)) (hc:∀ x∈k::S,1<=c x/\c x<=1000000) (hd:((k::S).map fun k=>d k+1).sum<N) {vs:List Int} (hv:vs=(List.range N).map (rst fr be (fun k g=>W k (hld (c k) g)) (k::S))) :
   CsOk (bts d (k::S)) (dfl vs) (rst fr be (fun k g=>W k (hld (c k) g)) (k::S)):=by
 subst hv;refine (CsOk.dfl (D1 h hc).1 hd hN fun i hi=>md (D8 hN h hc i hi)).le ?_;have:=Dl d S;rw [vQ,List.map_cons,List.sum_cons];omega
theorem SE {W:Int->Nat->Int} {c d:Int->Nat} {k:Int} {S:List Int} {cs:List Int} (hk:tx (d k) (W k)) (h1:1<=c k) (h2:c k<=1000000) (f:¬ fr k=true) (b:¬ be k=true) (hcs:CsOk (bts d S) cs (rst fr be (fun k g=>W k (hld (c k) g)) S)) :
   CsOk (bts d (k::S)) (cs.map fun x=>W k (hld (c k) 0)*x) (rst fr be (fun k g=>W k (hld (c k) g)) (k::S)):=by
 refine ⟨fun z=>hcs.ne (List.map_eq_nil_iff.mp z),by rw [List.length_map];exact hcs.len,fun x hx=>?_,fun n=>?_⟩
 . obtain ⟨y,hy,rfl⟩:=List.mem_map.mp hx;have h3:=md (Gf hk h1 h2 (j:=0) (by decide));have h4:=hcs.bt y hy;rw [Int.natAbs_mul,vQ];refine Nat.le_trans (Nat.mul_le_mul h3 h4) ?_;rw [<- Nat.pow_add];exact Nat.pow_le_pow_right (by decide) (by omega)
 . rw [GL,hcs.val,nI f b]
theorem MQ {f g f' g':Nat->Int} {n:Nat} (h1:∀ i,i<=n->f i=f' i) (h2:∀ i,i<=n->g i=g' i):cnv f g n=cnv f' g' n:=jF fun i hi=>by rw [h1 i (by omega),h2 (n - i) (by omega)]
theorem vg {f:Nat->Int} {N i:Nat} (h:i<N):((List.range N).map f).getD i 0=f i:=by
 rw [List.getD_eq_getElem?_getD,List.getElem?_map,List.getElem?_range h]
 rfl
theorem G9 {d:Int->Nat}:∀ ks:List Int,ks.length<=(ks.map fun k=>d k+1).sum
 | []=>Nat.le_refl _
 | k::ks=>by
   have:=G9 (d:=d) ks;rw [List.map_cons,List.sum_cons,List.length_cons];omega
theorem Kp {α β:Type} {R:α->β->Prop}:∀ {l:List α} {l':List β},Paired R l l'->Paired R l.reverse l'.reverse
 | _,_,.nil=>.nil
 | _,_,.cons e h=>by
   rw [List.reverse_cons,List.reverse_cons];exact vy e (Kp h)
theorem yK {fr' be':Int->Bool} {ws':Int->Nat->Int}:∀ {ks:List Int},(∀ k∈ks,fr k=fr' k/\be k=be' k/\ws k=ws' k)->rst fr be ws ks=rst fr' be' ws' ks
 | [],_=>rfl
 | k::ks,h=>by
   obtain ⟨h1,h2,h3⟩:=h k (.head _);have ih:=yK (ks:=ks) fun x hx=>h x (.tail _ hx)
   funext n
   show (if fr k=true then cnv (ws k) (rst fr be ws ks) n else if be k=true then ws k n*rst fr be ws ks 0 else ws k 0*rst fr be ws ks n)=(if fr' k=true then cnv (ws' k) (rst fr' be' ws' ks) n else if be' k=true then ws' k n*rst fr' be' ws' ks 0 else ws' k 0*rst fr' be' ws' ks n);rw [h1,h2,h3,ih]
section
variable {m:Int} {rs:List Road} {r:Int} {par:Int->Int} {dep:Int->Nat} {c:Int->Nat}
def wyF (m:Int) (rs:List Road) (r:Int) (par:Int->Int) (fr be:Int->Bool) (c:Int->Nat):Nat->Int->Nat->Int
 | 0,_=>fun _=>1
 | f+1,v=>rst fr be (fun k g=>wyF m rs r par fr be c f k (hld (c k) g)) (kd m rs r par v)
def wy (m:Int) (rs:List Road) (r:Int) (par:Int->Int) (dep:Int->Nat) (fr be:Int->Bool) (c:Int->Nat) (v:Int):Nat->Int:=wyF m rs r par fr be c (m.toNat - dep v) v
theorem nS (g:Good m rs) (R:Rooted m rs r par dep) {v:Int} (h0:0<=v) (h1:v<m):wy m rs r par dep fr be c v=rst fr be (fun k g=>wy m rs r par dep fr be c k (hld (c k) g)) (kd m rs r par v):=by
 unfold wy;cases e:m.toNat - dep v with
 | zero =>
   have:kd m rs r par v=[]:=by
     cases hk:kd m rs r par v with
     | nil=>rfl
     | cons k ks =>
       have:=(dQ g R h0 h1 (k:=k) (by rw [hk];exact .head _)).2.1;omega
   rw [this]
   rfl
 | succ f =>
   show rst fr be (fun k g=>wyF m rs r par fr be c f k (hld (c k) g)) (kd m rs r par v)=_;refine yK fun k hk=>⟨rfl,rfl,?_⟩;have:=(dQ g R h0 h1 hk).2.1;rw [show m.toNat - dep k=f by omega]
def dgr (m:Int) (rs:List Road) (r:Int) (par:Int->Int) (dep:Int->Nat) (v:Int):Nat:=(bj m rs r par dep v).length - 1
theorem iP (g:Good m rs) (R:Rooted m rs r par dep) {v:Int} (h0:0<=v) (h1:v<m):((kd m rs r par v).map fun k=>dgr m rs r par dep k+1).sum=dgr m rs r par dep v:=by
 have e:=congrArg List.length (db g R h0 h1);rw [List.length_cons,List.length_flatMap] at e;unfold dgr;rw [e,Nat.add_sub_cancel];show _=((kd m rs r par v).map fun k=>(bj m rs r par dep k).length).sum;refine congrArg List.sum (List.map_congr_left fun k hk=>?_);obtain ⟨⟨k0,k1⟩,_⟩:=(dQ g R h0 h1 hk).1;have:=congrArg List.length (db g R k0 k1);rw [List.length_cons] at this;omega
theorem Cp (g:Good m rs) (R:Rooted m rs r par dep) (hc:∀ v,0<=v->v<m->v≠r->1<=c v/\c v<=1000000):∀ (n:Nat) {v:Int},0<=v->v<m->m.toNat - dep v<=n->tx (dgr m rs r par dep v) (wy m rs r par dep fr be c v)
 | n,v,h0,h1,hn=>by
   rw [nS g R h0 h1,<- iP g R h0 h1];refine D1 (fun k hk=>?_) fun k hk=>?_
   . obtain ⟨⟨k0,k1⟩,_⟩:=(dQ g R h0 h1 hk).1;have:=(dQ g R h0 h1 hk).2.1;cases n with
     | zero=>omega
     | succ n=>exact Cp g R hc n k0 k1 (by omega)
   . obtain ⟨⟨k0,k1⟩,kr,_⟩:=(dQ g R h0 h1 hk).1;exact hc k k0 k1 kr
end
theorem CV:∀ {ks ks':List Int},ks'∈sfx ks->∀ x∈ks',x∈ks
 | [],ks',h,x,hx=>by
   rw [List.mem_singleton.mp h] at hx;exact hx
 | k::ks,ks',h,x,hx=>by
   rcases List.mem_cons.mp (show ks'∈(k::ks)::sfx ks from h) with rfl|h
   . exact hx
   . exact .tail _ (CV h x hx)
theorem Ht {α β:Type} {R S:α->β->Prop}:∀ {l:List α} {l':List β},(∀ a b,b∈l'->R a b->S a b)->Paired R l l'->Paired S l l'
 | _,_,_,.nil=>.nil
 | _,_,f,.cons e h=>.cons (f _ _ (.head _) e) (Ht (fun a b hb=>f a b (.tail _ hb)) h)
theorem Go (ks:List Int):∃ r,sfx ks=ks::r:=by
 cases ks with
 | nil=>exact ⟨[],rfl⟩
 | cons k ks=>exact ⟨sfx ks,rfl⟩
theorem rH {m:Int} {rs:List Road} {r:Int} {par:Int->Int} {dep:Int->Nat} (g:Good m rs) (R:Rooted m rs r par dep) {v:Int} (h0:0<=v) (h1:v<m):(dgr m rs r par dep v:Int)<m:=by
 obtain ⟨n1,n2⟩:=oC g R (m.toNat - 1 - dep v) v h0 h1;have:=cH (m:=m) (by omega) n1 fun x hx=>(n2 x hx).1;have:=g.m1;unfold dgr bj;omega
theorem T5 {m:Int} {rs:List Road} {r:Int} {par:Int->Int} {dep:Int->Nat} (g:Good m rs) (R:Rooted m rs r par dep) {tl:List Int} (O:Order m r par tl) {i:Nat} {v:Int} (hv:(r::tl).reverse[i]?=some v) (h0:0<=v) (h1:v<m):∀ k∈kd m rs r par v,k∈(r::tl).reverse.take i:=by
 intro k hk;have w:=(ba g R h0 h1).mp hk;rw [List.reverse_cons] at hv ⊢;by_cases c:i<tl.length
 . rw [List.getElem?_append_left (by rw [List.length_reverse];exact c)] at hv;obtain ⟨_,_,_,_,hdk⟩:=O.cut R hv;have:=hdk k w.1.1 w.1.2 w.2.1 w.2.2;rw [List.take_append_of_le_length (by rw [List.length_reverse];omega),List.take_reverse,List.mem_reverse];exact this
 . rw [List.take_append,List.take_of_length_le (by rw [List.length_reverse];omega)];exact List.mem_append_left _ (List.mem_reverse.mpr ((O.all k w.1.1 w.1.2).resolve_left w.2.1))
def ltr (L:Int) (r:Road):Road:=⟨r.a,r.b,2+r.t % L,2+r.u % L⟩
theorem Po {m L:Int} {rs:List Road} (g:Good m rs) (l1:1<=L) (l9:L<=900000):Good m (rs.map (ltr L)):=by
 refine ⟨g.m1,g.m24,by rw [List.length_map];exact g.len,fun x hx=>?_,fun S s0 hS v v0 v1=>g.jn S s0 (fun x hx=>?_) v v0 v1⟩
 . obtain ⟨y,hy,rfl⟩:=List.mem_map.mp hx;have k:=g.ok y hy;have h1:=Int.emod_nonneg y.t (show L≠0 by omega);have h2:=Int.emod_lt_of_pos y.t (show 0<L by omega);have h3:=Int.emod_nonneg y.u (show L≠0 by omega);have h4:=Int.emod_lt_of_pos y.u (show 0<L by omega);exact ⟨k.a0,k.a1,k.b0,k.b1,k.ne,by show 2<=2+y.t % L;omega,by show 2+y.t % L<=1000000;omega,by show 2<=2+y.u % L;omega,by show 2+y.u % L<=1000000;omega⟩
 . exact hS (ltr L x) (List.mem_map.mpr ⟨x,hx,rfl⟩)
theorem AV {f:Int->List Int} {v:Int} {z:List Int}:∀ {l:List Int},(l.flatMap f).Nodup->(l.flatMap fun k=>if v∈f k then z else [])=if v∈l.flatMap f then z else []
 | [],_=>by simp
 | a::l,h=>by
   rw [List.flatMap_cons] at h ⊢;obtain ⟨h1,h2,h3⟩:=List.nodup_append.mp h;rw [List.flatMap_cons,AV h2];by_cases c:v∈f a
   . have:v ∉ l.flatMap f:=fun e=>h3 v c v e rfl;rw [if_pos c,if_neg this,if_pos (List.mem_append_left _ c),List.append_nil]
   . rw [if_neg c,List.nil_append];by_cases c2:v∈l.flatMap f
     . rw [if_pos c2,if_pos (List.mem_append_right _ c2)]
     . rw [if_neg c2,if_neg (fun e=>(List.mem_append.mp e).elim c c2)]
section
variable {m:Int} {rs:List Road} {r:Int} {par:Int->Int} {dep:Int->Nat}
theorem gG {f h:Int->List Int}:∀ {l:List Int},(∀ x∈l,f x=h x)->l.flatMap f=l.flatMap h
 | [],_=>rfl
 | a::l,e=>by rw [List.flatMap_cons,List.flatMap_cons,e a List.mem_cons_self,gG fun x hx=>e x (List.mem_cons_of_mem _ hx)]
theorem Ap {p:Int->Bool} {f:Int->List Int}:∀ l:List Int,(l.flatMap f).filter p=l.flatMap fun k=>(f k).filter p
 | []=>rfl
 | a::l=>by rw [List.flatMap_cons,List.filter_append,Ap l,List.flatMap_cons]
theorem sd:∀ l:List Int,(l.flatMap fun k=>[k])=l
 | []=>rfl
 | a::l=>by
   rw [List.flatMap_cons,sd l]
   rfl
theorem Hr (g:Good m rs) (R:Rooted m rs r par dep) {v:Int} (v0:0<=v) (v1:v<m):∀ (n:Nat) {u:Int},0<=u->u<m->m.toNat - dep u<=n->((kd m rs r par u).flatMap (bj m rs r par dep)).filter (fun b=>decide (par b=v))=if v∈bj m rs r par dep u then kd m rs r par v else []
 | n,u,u0,u1,hn=>by
   have st:=db g R u0 u1;have nd:(bj m rs r par dep u).Nodup:=(oC g R _ u u0 u1).1;rw [st] at nd;obtain ⟨nd1,nd2⟩:=List.nodup_cons.mp nd;have ih:∀ k∈kd m rs r par u,(bj m rs r par dep k).filter (fun b=>decide (par b=v))=(if u=v then [k] else [])++if v∈bj m rs r par dep k then kd m rs r par v else []:=fun k hk=>by
     have w:=dQ g R u0 u1 hk;rw [db g R w.1.1.1 w.1.1.2,List.filter_cons];have rec_:((kd m rs r par k).flatMap (bj m rs r par dep)).filter (fun b=>decide (par b=v))=if v∈bj m rs r par dep k then kd m rs r par v else []:=by
       cases n with
       | zero=>omega
       | succ n=>exact Hr g R v0 v1 n w.1.1.1 w.1.1.2 (by omega)
     rw [show ((aK m rs (front r par k) k).flatMap (bj m rs r par dep)).filter (fun b=>decide (par b=v))=_ from rec_,db g R w.1.1.1 w.1.1.2,w.1.2.2];by_cases c:u=v
     . rw [if_pos (decide_eq_true c),if_pos c]
       rfl
     . rw [if_neg (by rw [decide_eq_true_eq];exact c),if_neg c]
       rfl
   rw [Ap,gG ih];by_cases c:u=v
   . subst c;have hm:u∈bj m rs r par dep u:=(by rw [st];exact .head _);rw [if_pos hm];have:((kd m rs r par u).flatMap fun k=>(if u=u then [k] else [])++if u∈bj m rs r par dep k then kd m rs r par u else [])=(kd m rs r par u).flatMap fun k=>[k]:=gG fun k hk=>by
       rw [if_pos rfl,if_neg (fun e=>nd1 (List.mem_flatMap.mpr ⟨k,hk,e⟩)),List.append_nil]
     rw [this,sd]
   . have:((kd m rs r par u).flatMap fun k=>(if u=v then [k] else [])++if v∈bj m rs r par dep k then kd m rs r par v else [])=(kd m rs r par u).flatMap fun k=>if v∈bj m rs r par dep k then kd m rs r par v else []:=gG fun k hk=>by rw [if_neg c,List.nil_append]
     rw [this,AV nd2,st];by_cases c2:v∈(aK m rs (front r par u) u).flatMap (bj m rs r par dep)
     . rw [if_pos c2,if_pos (.tail _ c2)]
     . rw [if_neg c2,if_neg (fun e=>(List.mem_cons.mp e).elim (fun z=>c z.symm) c2)]
theorem Rk (g:Good m rs) (R:Rooted m rs r par dep) (r0:0<=r) (r1:r<m) {tl:List Int} (et:bj m rs r par dep r=r::tl) (O:Order m r par tl) {v:Int} (v0:0<=v) (v1:v<m):bea m rs r par dep tl v=((kd m rs r par v).filter fun b=>decide (wgt m rs r par dep b*tup rs par b=wgt m rs r par dep v)).getLast?:=by
 have h:=Hr g R v0 v1 (m.toNat - dep r) r0 r1 (Nat.le_refl _);have e:(kd m rs r par r).flatMap (bj m rs r par dep)=tl:=by
   have:=db g R r0 r1;rw [et] at this;exact (List.cons.inj this).2.symm
 rw [e,et,if_pos (by
   rcases O.all v v0 v1 with z|z
   . rw [z];exact .head _
   . exact .tail _ z)] at h
 unfold bea;rw [<- h,List.filter_filter]
 congr 1
 refine List.filter_congr fun b _=>?_;rw [<- Bool.decide_and];exact decide_eq_decide.mpr ⟨fun ⟨x,y⟩=>⟨y,x⟩,fun ⟨x,y⟩=>⟨y,x⟩⟩
theorem Ql (g:Good m rs) (R:Rooted m rs r par dep) (r0:0<=r) (r1:r<m) {t:List Int} (O:Order m r par t) (hT:t=(r::t).flatMap (kd m rs r par)) {v:Int} (v0:0<=v) (v1:v<m):t.filter (fun b=>decide (par b=v))=kd m rs r par v:=by
 have e:=congrArg (fun l=>l.filter fun b=>decide (par b=v)) hT;simp only [Ap] at e;rw [e];have hr:∀ u∈r::t,0<=u/\u<m:=fun u hu=>by
   rcases List.mem_cons.mp hu with z|z
   . rw [z];exact ⟨r0,r1⟩
   . exact O.rng u z
 have h1:((r::t).flatMap fun u=>(kd m rs r par u).filter fun b=>decide (par b=v))=(r::t).flatMap fun u=>if v∈[u] then kd m rs r par v else []:=gG fun u hu=>by
   obtain ⟨u0,u1⟩:=hr u hu;by_cases c:v=u
   . subst c;rw [if_pos (List.mem_singleton.mpr rfl)];exact List.filter_eq_self.mpr fun b hb=>decide_eq_true ((ba g R u0 u1).mp hb).2.2
   . rw [if_neg (fun z=>c (List.mem_singleton.mp z))];exact List.filter_eq_nil_iff.mpr fun b hb z=>c ((of_decide_eq_true z).symm.trans ((ba g R u0 u1).mp hb).2.2)
 rw [h1,AV (f:=fun u=>[u]) (by rw [sd];exact O.nd),sd,if_pos (by
   rcases O.all v v0 v1 with z|z
   . rw [z];exact .head _
   . exact .tail _ z)]
def sfn:List Int->List (List Int)
 | []=>[]
 | k::ks=>(k::ks)::sfn ks
def kmt (r:Int) (par:Int->Int) (t:List Int) (v:Int) (j:Nat):List Int:=(((r::t).reverse.take j).filter fun b=>decide (b≠r/\par b=v)).reverse
theorem Q2 {t:List Int} {v u:Int} {j:Nat} (h:(r::t).reverse[j]?=some u):kmt r par t v (j+1)=if u≠r/\par u=v then u::kmt r par t v j else kmt r par t v j:=by
 unfold kmt;rw [List.take_succ,h,List.filter_append,List.reverse_append];by_cases c:u≠r/\par u=v
 . rw [if_pos c];simp [c]
 . rw [if_neg c];have:([u].filter fun b=>decide (b≠r/\par b=v))=[]:=List.filter_eq_nil_iff.mpr fun b hb z=>c (by rw [List.mem_singleton.mp hb] at z;exact of_decide_eq_true z);show (List.filter _ [u]).reverse++_=_;rw [this]
   rfl
theorem RY (g:Good m rs) (R:Rooted m rs r par dep) (r0:0<=r) (r1:r<m) {t:List Int} (O:Order m r par t) (hT:t=(r::t).flatMap (kd m rs r par)) {v:Int} (v0:0<=v) (v1:v<m):kmt r par t v (r::t).length=kd m rs r par v:=by
 unfold kmt;rw [<- List.length_reverse,List.take_length,<- List.filter_reverse,List.reverse_reverse,List.filter_cons,if_neg (by simp),<- Ql g R r0 r1 O hT v0 v1];refine List.filter_congr fun b hb=>?_;have:=O.ne hb;exact decide_eq_decide.mpr ⟨fun z=>z.2,fun z=>⟨this,z⟩⟩
theorem qD:∀ ks:List Int,(sfn ks).length=ks.length
 | []=>rfl
 | k::ks=>by
   show (sfn ks).length+1=ks.length+1;rw [qD ks]
theorem FI:∀ {ks ks':List Int} {i:Nat},(sfn ks)[i]?=some ks'->∃ k post,ks'=k::post/\ks[i]?=some k
 | [],ks',i,h=>by simp [sfn] at h
 | k::ks,ks',0,h=>by
   have:k::ks=ks':=Option.some.inj h;exact ⟨k,ks,this.symm,rfl⟩
 | k::ks,ks',i+1,h=>FI (ks:=ks) (i:=i) h
theorem wH {f:Int->List Int}:∀ {l:List Int},(∀ k∈l,k∈f k)->(l.flatMap f).Nodup->l.Nodup
 | [],_,_=>List.nodup_nil
 | a::l,h,nd=>by
   rw [List.flatMap_cons] at nd;obtain ⟨_,n2,n3⟩:=List.nodup_append.mp nd;refine List.nodup_cons.mpr ⟨fun z=>?_,wH (fun k hk=>h k (.tail _ hk)) n2⟩;exact n3 a (h a (.head _)) a (List.mem_flatMap.mpr ⟨a,z,h a (.head _)⟩) rfl
theorem PD {p:Int->Bool} {pre post:List Int} {k:Int} (nd:(pre++k::post).Nodup):((pre++k::post).filter p).getLast?=some k↔(p k && !(post.any p))=true:=by
 obtain ⟨_,nd2,nd3⟩:=List.nodup_append.mp nd;have kn:k ∉ post:=(List.nodup_cons.mp nd2).1;have kp:k ∉ pre:=fun z=>nd3 k z k (.head _) rfl;rw [List.filter_append,Bool.and_eq_true,Bool.not_eq_true'];by_cases hp:post.any p=true
 . have ne:post.filter p≠[]:=fun z=>by
     obtain ⟨x,hx,px⟩:=List.any_eq_true.mp hp;have:x∈post.filter p:=List.mem_filter.mpr ⟨hx,px⟩;rw [z] at this;cases this
   have e:(pre.filter p++(k::post).filter p).getLast?=(post.filter p).getLast?:=by
     obtain ⟨l,hl⟩:∃ l,pre.filter p++(k::post).filter p=l++post.filter p:=by
       rw [List.filter_cons];by_cases pk:p k=true
       . rw [if_pos pk];exact ⟨pre.filter p++[k],by rw [List.append_assoc];rfl⟩
       . rw [if_neg pk];exact ⟨_,rfl⟩
     rw [hl,List.getLast?_append];cases h:(post.filter p).getLast? with
     | none=>exact absurd (List.getLast?_eq_none_iff.mp h) ne
     | some x=>rfl
   rw [e]
   constructor
   . intro z;exact absurd ((List.mem_filter.mp (List.mem_of_getLast? z)).1) kn
   . intro z;rw [hp] at z;cases z.2
 . have hf:post.filter p=[]:=List.filter_eq_nil_iff.mpr fun x hx px=>hp (List.any_eq_true.mpr ⟨x,hx,px⟩);rw [List.filter_cons,hf];by_cases pk:p k=true
   . rw [if_pos pk,List.getLast?_append];exact ⟨fun _=>⟨pk,Bool.eq_false_iff.mpr hp⟩,fun _=>rfl⟩
   . rw [if_neg pk,List.append_nil]
     constructor
     . intro z;exact absurd ((List.mem_filter.mp (List.mem_of_getLast? z)).1) kp
     . intro z;exact absurd z.1 pk
theorem QA (g:Good m rs) (R:Rooted m rs r par dep) (r0:0<=r) (r1:r<m) {tl:List Int} (et:bj m rs r par dep r=r::tl) (O:Order m r par tl) {v:Int} (v0:0<=v) (v1:v<m) {pre post:List Int} {k:Int} (e:kd m rs r par v=pre++k::post) :
   bea m rs r par dep tl v=some k↔(decide (wgt m rs r par dep k*tup rs par k=wgt m rs r par dep v) && !(post.any fun b=>decide (wgt m rs r par dep b*tup rs par b=wgt m rs r par dep v)))=true:=by
 have nd:(kd m rs r par v).Nodup:=by
   have h1:=db g R v0 v1;have h2:(bj m rs r par dep v).Nodup:=(oC g R _ v v0 v1).1;rw [h1] at h2;have h3:=(List.nodup_cons.mp h2).2;exact wH (fun k hk=>by rw [db g R ((ba g R v0 v1).mp hk).1.1 ((ba g R v0 v1).mp hk).1.2];exact .head _) h3
 rw [Rk g R r0 r1 et O v0 v1,e];exact PD (p:=fun b=>decide (wgt m rs r par dep b*tup rs par b=wgt m rs r par dep v)) (e ▸ nd)
theorem SZ {v:Int}:(kd m rs r par v).length<=m.toNat:=by
 have h1:=List.length_filter_le (fun u=>decide (V.int u≠front r par v)) (fU m rs v);have h2:=List.length_filter_le (fun q=>decide (q∈cw rs v)) (below m.toNat);rw [aY] at h2;show ((fU m rs v).filter fun u=>decide (V.int u≠front r par v)).length<=m.toNat;unfold fU at h1 ⊢;omega
structure KnOk (m:Int) (L:Nat) (f:Int->Nat->Nat->Int) (kn:List (List Key × V)):Prop where
 val:∀ p∈kn,∃ (v:Int) (k l:Nat),p=(([.inl v,.inl (k:Int),.inl (l:Int)]:List Key),V.int (f v k l))/\0<=v/\v<m/\(k:Int)<m/\l<L
 nd:(kn.map (·.1)).Nodup
theorem KnOk.get {L:Nat} {f:Int->Nat->Nat->Int} {kn:List (List Key × V)} (h:KnOk m L f kn) {v:Int} {k l:Nat} {x:V} (e:bQ kn ([.inl v,.inl (k:Int),.inl (l:Int)]:List Key)=some x):x=.int (f v k l):=by
 unfold bQ at e;obtain ⟨p,hp,rfl⟩:=Option.map_eq_some_iff.mp e;have pm:=List.mem_of_find?_eq_some hp;have pk0:decide (p.1=([.inl v,.inl (k:Int),.inl (l:Int)]:List Key))=true:=List.find?_some (p:=fun kv:List Key × V=>decide (kv.1=([.inl v,.inl (k:Int),.inl (l:Int)]:List Key))) hp;have pk:=of_decide_eq_true pk0;obtain ⟨v',k',l',rfl,_⟩:=h.val p pm;have e1:([.inl v',.inl (k':Int),.inl (l':Int)]:List Key)=[.inl v,.inl (k:Int),.inl (l:Int)]:=pk;simp only [List.cons.injEq,Sum.inl.injEq,and_true] at e1;obtain ⟨rfl,h2,h3⟩:=e1;rw [show k'=k by omega,show l'=l by omega]
theorem KnOk.put {L:Nat} {f:Int->Nat->Nat->Int} {kn:List (List Key × V)} (h:KnOk m L f kn) {v:Int} {k l:Nat} (e:bQ kn ([.inl v,.inl (k:Int),.inl (l:Int)]:List Key)=none) (v0:0<=v) (v1:v<m) (k1:(k:Int)<m) (l1:l<L):KnOk m L f (cX kn ([.inl v,.inl (k:Int),.inl (l:Int)]:List Key) (.int (f v k l))):=by
 rw [FZ _ e];refine ⟨fun p hp=>?_,?_⟩
 . rcases List.mem_append.mp hp with hp|hp
   . exact h.val p hp
   . exact ⟨v,k,l,List.mem_singleton.mp hp,v0,v1,k1,l1⟩
 . rw [List.map_append,List.nodup_append];refine ⟨h.nd,by simp,fun a ha b hb z=>?_⟩;have hb:b=[.inl v,.inl (k:Int),.inl (l:Int)]:=by simpa using hb
   rw [z,hb] at ha;obtain ⟨p,hp,hpk⟩:=List.mem_map.mp ha;have:bQ kn ([.inl v,.inl (k:Int),.inl (l:Int)]:List Key)≠none:=fun z=>by
     unfold bQ at z;have:=List.find?_eq_none.mp (Option.map_eq_none_iff.mp z) p hp;exact this (decide_eq_true hpk)
   exact this e
theorem KnOk.putA {L:Nat} {f:Int->Nat->Nat->Int} {kn:List (List Key × V)} (h:KnOk m L f kn) {v:Int} {k l:Nat} (v0:0<=v) (v1:v<m) (k1:(k:Int)<m) (l1:l<L):KnOk m L f (cX kn ([.inl v,.inl (k:Int),.inl (l:Int)]:List Key) (.int (f v k l))):=by
 cases e:bQ kn ([.inl v,.inl (k:Int),.inl (l:Int)]:List Key) with
 | none=>exact h.put e v0 v1 k1 l1
 | some x =>
   by_cases a:(kn.any fun kv=>decide (kv.1=([.inl v,.inl (k:Int),.inl (l:Int)]:List Key)))=true
   . unfold cX;rw [if_pos a];refine ⟨fun p hp=>?_,?_⟩
     . obtain ⟨p',hp',rfl⟩:=List.mem_map.mp hp;by_cases c:p'.1=([.inl v,.inl (k:Int),.inl (l:Int)]:List Key)
       . rw [if_pos c,c];exact ⟨v,k,l,rfl,v0,v1,k1,l1⟩
       . rw [if_neg c];exact h.val p' hp'
     . have:((kn.map fun kv=>if kv.1=([.inl v,.inl (k:Int),.inl (l:Int)]:List Key) then (kv.1,V.int (f v k l)) else kv).map (·.1))=kn.map (·.1):=by
         rw [List.map_map];refine List.map_congr_left fun p _=>?_;show (if p.1=([.inl v,.inl (k:Int),.inl (l:Int)]:List Key) then (p.1,V.int (f v k l)) else p).1=p.1;split <;> rfl
       rw [this];exact h.nd
   . unfold cX;rw [if_neg a];have e2:bQ kn ([.inl v,.inl (k:Int),.inl (l:Int)]:List Key)=none:=by
       unfold bQ;rw [Option.map_eq_none_iff,List.find?_eq_none];exact fun p hp z=>a (List.any_eq_true.mpr ⟨p,hp,z⟩)
     rw [e] at e2;cases e2
def kcd (M L:Nat):List Key->Nat
 | [.inl v,.inl k,.inl l]=>(v.toNat*M+k.toNat)*L+l.toNat
 | _=>0
theorem GX {L a l a' l':Nat} (hl:l<L) (hl':l'<L) (e:a*L+l=a'*L+l'):a=a'/\l=l':=by
 have h1:(a*L+l) / L=a:=by rw [Nat.mul_comm,Nat.mul_add_div (by omega),Nat.div_eq_of_lt hl,Nat.add_zero]
 have h2:(a'*L+l') / L=a':=by rw [Nat.mul_comm,Nat.mul_add_div (by omega),Nat.div_eq_of_lt hl',Nat.add_zero]
 have h3:a=a':=by rw [<- h1,<- h2,e]
 subst h3;exact ⟨rfl,by omega⟩
theorem Kl {L A a l:Nat} (h:a<A) (hl:l<L):a*L+l<A*L:=by
 have:=Nat.mul_le_mul_right L (show a+1<=A from h);rw [Nat.add_mul,Nat.one_mul] at this;omega
theorem ye {α β:Type} {f:α->β}:∀ {l:List α},(∀ a∈l,∀ b∈l,f a=f b->a=b)->l.Nodup->(l.map f).Nodup
 | [],_,_=>List.nodup_nil
 | a::l,h,nd=>by
   obtain ⟨n1,n2⟩:=List.nodup_cons.mp nd;rw [List.map_cons];refine List.nodup_cons.mpr ⟨fun z=>?_,ye (fun x hx y hy=>h x (.tail _ hx) y (.tail _ hy)) n2⟩;obtain ⟨b,hb,e⟩:=List.mem_map.mp z;exact n1 (h b (.tail _ hb) a (.head _) e ▸ hb)
theorem KnOk.len {L:Nat} {f:Int->Nat->Nat->Int} {kn:List (List Key × V)} (h:KnOk m L f kn):kn.length<=m.toNat*m.toNat*L:=by
 have key:∀ a∈kn.map (·.1),∃ (v:Int) (k l:Nat),a=([.inl v,.inl (k:Int),.inl (l:Int)]:List Key)/\0<=v/\v<m/\(k:Int)<m/\l<L:=fun a ha=>by
   obtain ⟨p,hp,rfl⟩:=List.mem_map.mp ha;obtain ⟨v,k,l,rfl,h1⟩:=h.val p hp;exact ⟨v,k,l,rfl,h1⟩
 have nd:((kn.map (·.1)).map (kcd m.toNat L)).Nodup:=ye (fun a ha b hb e=>by
   obtain ⟨v,k,l,rfl,h1,h2,h3,h4⟩:=key a ha;obtain ⟨v',k',l',rfl,g1,g2,g3,g4⟩:=key b hb;have e:(v.toNat*m.toNat+((k:Int)).toNat)*L+((l:Int)).toNat=(v'.toNat*m.toNat+((k':Int)).toNat)*L+((l':Int)).toNat:=e;rw [Int.toNat_natCast,Int.toNat_natCast,Int.toNat_natCast,Int.toNat_natCast] at e;obtain ⟨e1,e2⟩:=GX h4 g4 e;obtain ⟨e3,e4⟩:=GX (by omega) (by omega) e1;rw [show v=v' by omega,e4,e2]) h.nd
 have:=lR (l':=List.range (m.toNat*m.toNat*L)) nd fun x hx=>by
   obtain ⟨a,ha,rfl⟩:=List.mem_map.mp hx;obtain ⟨v,k,l,rfl,h1,h2,h3,h4⟩:=key a ha;rw [List.mem_range];show (v.toNat*m.toNat+((k:Int)).toNat)*L+((l:Int)).toNat<m.toNat*m.toNat*L;rw [Int.toNat_natCast,Int.toNat_natCast];exact Kl (Kl (by omega) (by omega)) h4
 rw [List.length_map,List.length_map,List.length_range] at this;exact this
end
theorem HG:∀ {ks ks':List Int} {i:Nat},(sfn ks)[i]?=some ks'->ks'=ks.drop i
 | [],ks',i,h=>by simp [sfn] at h
 | k::ks,ks',0,h=>(Option.some.inj h).symm
 | k::ks,ks',i+1,h=>HG (ks:=ks) (i:=i) h
def hvK (m:Int) (rs:List Road) (r:Int) (par:Int->Int) (dep:Int->Nat) (k:Int):Bool:=decide (wgt m rs r par dep k*tup rs par k=wgt m rs r par dep (par k))
def KdV (H:Hp) (m:Int) (rs:List Road) (r:Int) (par:Int->Int) (dep:Int->Nat) (q:Addr) (ks:List Int):Prop:=∃ k post,ks=k::post/\H q=some (.tup [.int k,.int (tup rs par k),.bl (hvK m rs r par dep k),.bl (hvK m rs r par dep k && !(post.any (hvK m rs r par dep)))])
def yV (H:Hp) (m:Int) (rs:List Road) (r:Int) (par:Int->Int) (dep:Int->Nat) (kvs:List (Key × V)) (v:Int):Prop:=∃ (lv:Addr) (qv:List Addr),bQ kvs (.inl v)=some (.ref lv)/\H lv=some (.lst (qv.map V.ref))/\Paired (KdV H m rs r par dep) qv (sfn (kd m rs r par v))
theorem OP {m:Int} {rs:List Road} {r:Int} {par:Int->Int} {dep:Int->Nat} (R:Rooted m rs r par dep) (h:m<=7\/∃ z,∀ x∈rs,x.a=z\/x.b=z) {v:Int} (v0:0<=v) (v1:v<m):dep v<=6:=by
 rcases h with h|⟨z,hz⟩
 . have:=yw R v0 v1;omega
 . refine Nat.le_of_not_lt fun big=>?_;have nr:∀ {u:Int},0<dep u->u≠r:=fun {u} hu e=>by rw [e,R.root] at hu;exact Nat.lt_irrefl _ hu
   obtain ⟨a1,a2,a3⟩:=R.up v v0 v1 (nr (by omega));obtain ⟨b1,b2,b3⟩:=R.up (par v) a1.1 a1.2 (nr (by omega));obtain ⟨c1,c2,c3⟩:=R.up (par (par v)) b1.1 b1.2 (nr (by omega));have tz:∀ {u w:Int},Adj rs u w->u=z\/w=z:=fun {u w} ha=>by
     obtain ⟨x,hx,e⟩:=ha;rcases e with ⟨e1,e2⟩|⟨e1,e2⟩ <;> rcases hz x hx with f|f
     . exact .inl (e1.symm.trans f)
     . exact .inr (e2.symm.trans f)
     . exact .inr (e2.symm.trans f)
     . exact .inl (e1.symm.trans f)
   have q1:=tz a2;have q3:=tz c2;rcases q1 with q1|q1 <;> rcases q3 with q3|q3
   . have:=congrArg dep (q1.trans q3.symm);omega
   . have:=congrArg dep (q1.trans q3.symm);omega
   . have:=congrArg dep (q1.trans q3.symm);omega
   . have:=congrArg dep (q1.trans q3.symm);omega
theorem Gu {p q:Int->Bool}:∀ {l:List Int},(∀ b∈l,p b=q b)->l.any p=l.any q
 | [],_=>rfl
 | a::l,h=>by rw [List.any_cons,List.any_cons,h a (.head _),Gu fun b hb=>h b (.tail _ hb)]
theorem Sz {m:Int} {rs:List Road} {r:Int} {par:Int->Int} {dep:Int->Nat} (g:Good m rs) (R:Rooted m rs r par dep) (h:∀ x∈rs,x.t<=4/\x.u<=4) {v:Int} (v0:0<=v) (v1:v<m) (vn:v≠r):tup rs par v<=4:=by
 obtain ⟨k,hk,_⟩:=mq g R v0 v1 vn;have e:tup rs par v=k:=by unfold tup;rw [hk];rfl
 rw [e];unfold aZ at hk;obtain ⟨x,hx,ht⟩:=List.exists_of_findSome?_eq_some hk;have:=h x hx;unfold eF at ht;split at ht
 . injection ht with ht;omega
 . split at ht
   . injection ht with ht;omega
   . cases ht
end Pb
namespace L2
open PySem
theorem Sw {X:Cx} (K:PySem.W.Frag) (h:X.K=K):SlR X (Ta K):=by subst h;exact T4
end L2
namespace Pb
open L2 PySem PySem.W NumText
section
variable {fr be:Int->Bool} {ws:Int->Nat->Int}
theorem FB {hv:Int->Bool} {E:Int->Nat}:∀ {ks:List Int},(∀ k∈ks,1<=E k/\Pd (E k - 1) (ws k))->(∀ pre k post,ks=pre++k::post->be k=(hv k && !(post.any hv))/\fr k=(hv k && !(be k)))->Pd (((ks.filter hv).map E).sum - 1) (rst fr be ws ks)
 | [],_,_=>fun _=>rfl
 | k::ks,h,hf=>by
   obtain ⟨e1,p1⟩:=h k (.head _);have ih:=FB (ks:=ks) (fun x hx=>h x (.tail _ hx)) (fun pre k' post e=>hf (k::pre) k' post (by rw [e];rfl));obtain ⟨b1,f1⟩:=hf [] k ks rfl;by_cases a:hv k=true
   . rw [List.filter_cons,if_pos a,List.map_cons,List.sum_cons];by_cases p:ks.any hv=true
     . have bf:be k=false:=(by rw [b1,a,p];rfl);have ff:fr k=true:=(by rw [f1,a,bf];rfl);rw [nV ff];have s1:1<=((ks.filter hv).map E).sum:=by
         obtain ⟨x,hx,px⟩:=List.any_eq_true.mp p;have h1:=mX (g:=E) (List.mem_filter.mpr ⟨hx,px⟩);have h2:=(h x (.tail _ hx)).1;omega
       exact (Pd.cnv p1 ih).le (by omega)
     . have bt:be k=true:=(by rw [b1,a,Bool.eq_false_iff.mpr p];rfl);have ff:¬ fr k=true:=(by rw [f1,bt,a];decide);rw [nY ff bt];have:=(p1.smul (rst fr be ws ks 0)).le (show E k - 1<=E k+((ks.filter hv).map E).sum - 1 by omega);have e:(fun n=>rst fr be ws ks 0*ws k n)=fun n=>ws k n*rst fr be ws ks 0:=by
         funext n
         exact Int.mul_comm ..
       rw [e] at this;exact this
   . rw [List.filter_cons,if_neg a];have bf:¬ be k=true:=(by rw [b1,Bool.eq_false_iff.mpr a,Bool.false_and];decide);have ff:¬ fr k=true:=(by rw [f1,Bool.eq_false_iff.mpr a,Bool.false_and];decide);rw [nI ff bf];exact ih.smul _
def Up1 (f:Nat->Int):Prop:=∀ n,1<=f n/\f n<=f (n+1)
theorem Up1.le {f:Nat->Int} (h:Up1 f) {a b:Nat} (l:a<=b):f a<=f b:=by
 induction l with
 | refl=>exact Int.le_refl _
 | step _ ih=>exact Int.le_trans ih (h _).2
theorem Gz {f g:Nat->Int}:∀ {k:Nat},(∀ i,i<k->f i<=g i)->smN k f<=smN k g
 | 0,_=>Int.le_refl _
 | k+1,h=>by
   have h1:=Gz (k:=k) fun i hi=>h i (by omega);have h2:=h k (by omega);show smN k f+f k<=smN k g+g k;omega
theorem Op {f:Nat->Int}:∀ {k:Nat},(∀ i,i<k->0<=f i)->0<=smN k f
 | 0,_=>Int.le_refl _
 | k+1,h=>by
   have h1:=Op (k:=k) fun i hi=>h i (by omega);have h2:=h k (by omega);show 0<=smN k f+f k;omega
theorem Bm {a b:Int} (ha:1<=a) (hb:1<=b):1<=a*b:=by
 have:=Int.mul_le_mul ha hb (by decide) (by omega);omega
theorem Up1.cnv {f g:Nat->Int} (hf:Up1 f) (hg:Up1 g):Up1 (cnv f g):=fun n=>by
 have p:∀ i j,1<=f i*g j:=fun i j=>Bm (hf i).1 (hg j).1
 constructor
 . have h1:0<=smN n fun k=>f k*g (n - k):=Op fun i _=>by
     have:=p i (n - i);omega
   have h2:=p n (n - n);show 1<=(smN n fun k=>f k*g (n - k))+f n*g (n - n);omega
 . have h1:(smN (n+1) fun k=>f k*g (n - k))<=smN (n+1) fun k=>f k*g (n+1 - k):=Gz fun i hi=>by
     refine Int.mul_le_mul_of_nonneg_left ?_ (by have:=(hf i).1;omega);exact hg.le (by omega)
   have h2:=p (n+1) (n+1 - (n+1));show (smN (n+1) fun k=>f k*g (n - k))<=(smN (n+1) fun k=>f k*g (n+1 - k))+f (n+1)*g (n+1 - (n+1));omega
theorem Up1.mul {f:Nat->Int} (h:Up1 f) {c:Int} (hc:1<=c):Up1 fun n=>c*f n:=fun n=>⟨Bm hc (h n).1,Int.mul_le_mul_of_nonneg_left (h n).2 (by omega)⟩
theorem ND:∀ {ks:List Int},(∀ k∈ks,Up1 (ws k))->Up1 (rst fr be ws ks)
 | [],_=>fun _=>⟨Int.le_refl _,Int.le_refl _⟩
 | k::ks,h=>by
   have h1:=h k (.head _);have h2:=ND (ks:=ks) fun x hx=>h x (.tail _ hx);by_cases f:fr k=true
   . rw [nV f];exact h1.cnv h2
   . by_cases b:be k=true
     . rw [nY f b];have:=h1.mul (h2 0).1;intro n;have e:1<=rst fr be ws ks 0*ws k n/\rst fr be ws ks 0*ws k n<=rst fr be ws ks 0*ws k (n+1):=this n;rw [Int.mul_comm (rst fr be ws ks 0),Int.mul_comm (rst fr be ws ks 0)] at e;exact e
     . rw [nI f b];exact h2.mul (h1 0).1
end
section
variable {m:Int} {rs:List Road} {r:Int} {par:Int->Int} {dep:Int->Nat} {fr be:Int->Bool} {c:Int->Nat}
theorem S6 {c:Nat} (h:1<=c) {a b:Nat} (l:a<=b):hld c a<=hld c b:=by
 rw [uk h,uk h];have:=Nat.mul_le_mul_left c l;omega
theorem RR (g:Good m rs) (R:Rooted m rs r par dep) (hc:∀ v,0<=v->v<m->v≠r->1<=c v):∀ (n:Nat) {v:Int},0<=v->v<m->m.toNat - dep v<=n->Up1 (wy m rs r par dep fr be c v)
 | n,v,h0,h1,hn=>by
   rw [nS g R h0 h1];refine ND fun k hk=>?_;obtain ⟨⟨k0,k1⟩,kr,_⟩:=(dQ g R h0 h1 hk).1;have:=(dQ g R h0 h1 hk).2.1;cases n with
   | zero=>omega
   | succ n =>
     have ih:=RR g R hc n k0 k1 (by omega);exact fun i=>⟨(ih _).1,ih.le (S6 (hc k k0 k1 kr) (by omega))⟩
def enF (m:Int) (rs:List Road) (r:Int) (par:Int->Int) (hv:Int->Bool):Nat->Int->Nat
 | 0,_=>1
 | f+1,v=>if kd m rs r par v=[] then 1 else (((kd m rs r par v).filter hv).map (enF m rs r par hv f)).sum
def enN (m:Int) (rs:List Road) (r:Int) (par:Int->Int) (dep:Int->Nat) (hv:Int->Bool) (v:Int):Nat:=enF m rs r par hv (m.toNat - dep v) v
theorem vq (g:Good m rs) (R:Rooted m rs r par dep) {hv:Int->Bool} {v:Int} (h0:0<=v) (h1:v<m):enN m rs r par dep hv v=if kd m rs r par v=[] then 1 else (((kd m rs r par v).filter hv).map (enN m rs r par dep hv)).sum:=by
 unfold enN;cases e:m.toNat - dep v with
 | zero =>
   have:kd m rs r par v=[]:=by
     cases hk:kd m rs r par v with
     | nil=>rfl
     | cons k ks =>
       have:=(dQ g R h0 h1 (k:=k) (by rw [hk];exact .head _)).2.1;omega
   rw [if_pos this]
   rfl
 | succ f =>
   show (if kd m rs r par v=[] then 1 else (((kd m rs r par v).filter hv).map (enF m rs r par hv f)).sum)=_
   congr 1
   refine congrArg List.sum (List.map_congr_left fun k hk=>?_);have:=(dQ g R h0 h1 (List.mem_filter.mp hk).1).2.1;rw [show m.toNat - dep k=f by omega]
theorem DX (g:Good m rs) (R:Rooted m rs r par dep) {hv:Int->Bool} (hh:∀ v,0<=v->v<m->kd m rs r par v≠[]->∃ k∈kd m rs r par v,hv k=true):∀ (n:Nat) {v:Int},0<=v->v<m->m.toNat - dep v<=n->1<=enN m rs r par dep hv v
 | n,v,h0,h1,hn=>by
   rw [vq g R h0 h1];by_cases e:kd m rs r par v=[]
   . rw [if_pos e];exact Nat.le_refl _
   . rw [if_neg e];obtain ⟨k,hk,hvk⟩:=hh v h0 h1 e;have w:=dQ g R h0 h1 hk;have s:=mX (g:=enN m rs r par dep hv) (List.mem_filter.mpr ⟨hk,hvk⟩);have w2:=w.2.1;cases n with
     | zero=>omega
     | succ n =>
       have:=DX g R hh n w.1.1.1 w.1.1.2 (by omega);omega
theorem vO {f g:Int->Nat} {p:Int->Bool}:∀ {ks:List Int},(∀ k∈ks,f k<=g k)->((ks.filter p).map f).sum<=(ks.map g).sum
 | [],_=>Nat.le_refl _
 | k::ks,h=>by
   have h1:=h k (.head _);have h2:=vO (p:=p) (ks:=ks) fun x hx=>h x (.tail _ hx);rw [List.filter_cons,List.map_cons,List.sum_cons];split
   . rw [List.map_cons,List.sum_cons];omega
   . omega
theorem Ox (g:Good m rs) (R:Rooted m rs r par dep) {hv:Int->Bool}:∀ (n:Nat) {v:Int},0<=v->v<m->m.toNat - dep v<=n->enN m rs r par dep hv v<=dgr m rs r par dep v+1
 | n,v,h0,h1,hn=>by
   rw [vq g R h0 h1];split
   . omega
   . rw [<- iP g R h0 h1];refine Nat.le_trans (vO (g:=fun k=>dgr m rs r par dep k+1) fun k hk=>?_) (Nat.le_succ _);have w:=dQ g R h0 h1 hk;have w2:=w.2.1;cases n with
     | zero=>omega
     | succ n=>exact Ox g R n w.1.1.1 w.1.1.2 (by omega)
theorem Kj (g:Good m rs) (R:Rooted m rs r par dep) (hc:∀ v,0<=v->v<m->v≠r->1<=c v) {hv:Int->Bool} (hh:∀ v,0<=v->v<m->kd m rs r par v≠[]->∃ k∈kd m rs r par v,hv k=true) (hf:∀ (v:Int) (pre post:List Int) (k:Int),0<=v->v<m->kd m rs r par v=pre++k::post->be k=(hv k && !(post.any hv))/\fr k=(hv k && !(be k))) :
   ∀ (n:Nat) {v:Int},0<=v->v<m->m.toNat - dep v<=n->Pd (enN m rs r par dep hv v - 1) (wy m rs r par dep fr be c v)
 | n,v,h0,h1,hn=>by
   rw [nS g R h0 h1,vq g R h0 h1];by_cases e:kd m rs r par v=[]
   . rw [if_pos e,e];exact fun _=>rfl
   . rw [if_neg e];refine FB (fun k hk=>?_) fun pre k post ek=>hf v pre post k h0 h1 ek;obtain ⟨⟨k0,k1⟩,kr,_⟩:=(dQ g R h0 h1 hk).1;have w2:=(dQ g R h0 h1 hk).2.1;refine ⟨DX g R hh (m.toNat - dep k) k0 k1 (Nat.le_refl _),?_⟩;cases n with
     | zero=>omega
     | succ n =>
       have ih:=(Kj g R hc hh hf n k0 k1 (by omega)).lin (c k) (c k - 1);have e:(fun g=>wy m rs r par dep fr be c k (hld (c k) g))=fun g=>wy m rs r par dep fr be c k (c k*g+(c k - 1)):=by
         funext g
         rw [uk (hc k k0 k1 kr)]
       rw [e];exact ih
end
theorem RL {N d:Nat} {f g:Nat->Int} (hf:Pd d f) (hg:Pd d g) (hd:d<N) (h:∀ i,i<N->f i=g i) (n:Nat):f n=g n:=by
 rw [<- xI N hf hd n,<- xI N hg hd n,sy h]
theorem Ov:∀ (r:List Int) (d:Int),Pd r.length (fun n=>nwS (d::r) n 0)
 | [],d=>fun n=>by
   show d*(ch n 0:Int)+0=d*(ch 0 0:Int)+0;rw [gw,gw]
 | e::r,d=>by
   have ih:=Ov r e;show Pd r.length (dl fun n=>nwS (d::e::r) n 0);have h:(dl fun n=>nwS (d::e::r) n 0)=fun n=>nwS (e::r) n 0:=by
     funext n
     show d*(ch (n+1) 0:Int)+nwS (e::r) (n+1) (0+1) - (d*(ch n 0:Int)+nwS (e::r) n (0+1))=nwS (e::r) n 0;rw [vF,gw,gw];omega
   rw [h];exact ih
theorem J8:∀ (N:Nat) (f:Nat->Int) (n:Nat),n<N->nwS (dfs N f) n 0=f n
 | 0,_,_,h=>absurd h (Nat.not_lt_zero _)
 | N+1,f,n,h=>by
   show f 0*(ch n 0:Int)+nwS (dfs N (dl f)) n (0+1)=f n;rw [gw]
   induction n with
   | zero =>
     rw [vo];simp
   | succ n ih =>
     have ih:=ih (by omega);rw [vF,J8 N (dl f) n (by omega)];show f 0*((1:Nat):Int)+(nwS (dfs N (dl f)) n (0+1)+(f (n+1) - f n))=f (n+1);omega
def wn (N k:Nat) (y:Nat):Int:=nwS (dfs N fun i=>if i=k then 1 else 0) y 0
theorem G7 {N k:Nat} (h:1<=N):Pd (N - 1) (wn N k):=by
 obtain ⟨n,rfl⟩:∃ n,N=n+1:=⟨N - 1,by omega⟩;have:=Ov (dfs n (dl fun i=>if i=k then 1 else 0)) (if 0=k then 1 else 0);rw [yY] at this;exact this
theorem xp {N k i:Nat} (h:i<N):wn N k i=if i=k then 1 else 0:=J8 N (fun i=>if i=k then 1 else 0) i h
theorem Pd.mulLin:∀ {d:Nat} {f:Nat->Int} (a:Int),Pd d f->Pd (d+1) (fun n=>f n*((n:Int) - a))
 | 0,f,a,h=>fun n=>by
   show f (n+1)*(((n+1:Nat):Int) - a) - f n*((n:Int) - a)=f (0+1)*(((0+1:Nat):Int) - a) - f 0*(((0:Nat):Int) - a);rw [h (n+1),h n,h (0+1),<- Int.mul_sub,<- Int.mul_sub]
   congr 1
   omega
 | d+1,f,a,h=>by
   have h1:=Pd.mulLin (d:=d) (f:=dl f) (a - 1) h;have h2:Pd (d+1) (fun n=>dl f n*((n:Int) - (a - 1))+f n):=h1.add h;show Pd (d+1) (dl fun n=>f n*((n:Int) - a));have e:(dl fun n=>f n*((n:Int) - a))=fun n=>dl f n*((n:Int) - (a - 1))+f n:=by
     funext n
     show f (n+1)*(((n+1:Nat):Int) - a) - f n*((n:Int) - a)=(f (n+1) - f n)*((n:Int) - (a - 1))+f n;rw [show ((n+1:Nat):Int) - a=(n:Int) - (a - 1) by omega,Int.sub_mul,show (n:Int) - a=((n:Int) - (a - 1)) - 1 by omega,Int.mul_sub (f n)];omega
   rw [e];exact h2
def tpP (k:Nat) (y:Int):Nat->Int
 | 0=>1
 | j+1=>if j=k then tpP k y j else tpP k y j*(y - j)
theorem M7 (k:Nat):∀ j:Nat,(j<=k->Pd j (fun n=>tpP k (n:Int) j))/\(k<j->Pd (j - 1) (fun n=>tpP k (n:Int) j))
 | 0=>⟨fun _=>(fun _=>rfl:Pd 0 _),fun h=>absurd h (Nat.not_lt_zero _)⟩
 | j+1=>by
   obtain ⟨h1,h2⟩:=M7 k j
   constructor
   . intro h;have e:(fun n:Nat=>tpP k (n:Int) (j+1))=fun n:Nat=>tpP k (n:Int) j*((n:Int) - (j:Int)):=by
       funext n
       show (if j=k then _ else _)=_;rw [if_neg (by omega)]
     rw [e];exact (h1 (by omega)).mulLin _
   . intro h;by_cases c:j=k
     . have e:(fun n:Nat=>tpP k (n:Int) (j+1))=fun n:Nat=>tpP k (n:Int) j:=by
         funext n
         show (if j=k then _ else _)=_;rw [if_pos c]
       rw [e];exact h1 (by omega)
     . have e:(fun n:Nat=>tpP k (n:Int) (j+1))=fun n:Nat=>tpP k (n:Int) j*((n:Int) - (j:Int)):=by
         funext n
         show (if j=k then _ else _)=_;rw [if_neg c]
       rw [e];have:=(h2 (by omega)).mulLin (j:Int);rw [show j - 1+1=j by omega] at this;exact this
theorem AR {k i:Nat} (h:i≠k):∀ {j:Nat},i<j->tpP k (i:Int) j=0
 | 0,hj=>absurd hj (Nat.not_lt_zero _)
 | j+1,hj=>by
   show (if j=k then tpP k i j else tpP k i j*((i:Int) - j))=0;by_cases c:j=k
   . rw [if_pos c];exact AR h (by omega)
   . rw [if_neg c];by_cases e:i=j
     . rw [e,Int.sub_self,Int.mul_zero]
     . rw [AR h (by omega),Int.zero_mul]
theorem HD (k:Nat):∀ j:Nat,tpP k (k:Int) j≠0
 | 0=>by show (1:Int)≠0;decide
 | j+1=>by
   have ih:=HD k j;show (if j=k then tpP k k j else tpP k k j*((k:Int) - j))≠0;by_cases c:j=k
   . rw [if_pos c];exact ih
   . rw [if_neg c];exact Int.mul_ne_zero ih (by omega)
theorem re {k:Nat} {y:Int} (h:y.natAbs+12<=2^200):∀ j:Nat,j<=12->(tpP k y j).natAbs<=2^(200*j)
 | 0,_=>Nat.le_refl _
 | j+1,hj=>by
   have ih:=re (k:=k) h j (by omega);show (if j=k then tpP k y j else tpP k y j*(y - j)).natAbs<=_;split
   . exact Nat.le_trans ih (Nat.pow_le_pow_right (by decide) (by omega))
   . rw [Int.natAbs_mul,show 200*(j+1)=200*j+200 by omega,Nat.pow_add];refine Nat.mul_le_mul ih ?_;have e:=(Int.natAbs_sub_le y j);have:((j:Int)).natAbs=j:=Int.natAbs_natCast j;omega
theorem Ob {N k:Nat} (h:k<N) (y:Nat):tpP k (y:Int) N=tpP k (k:Int) N*wn N k y:=by
 refine RL (N:=N) (d:=N - 1) ((M7 k N).2 h) ((G7 (by omega)).smul _) (by omega) (fun i hi=>?_) y;rw [xp hi];by_cases c:i=k
 . rw [if_pos c,c,Int.mul_one]
 . rw [if_neg c,AR c hi,Int.mul_zero]
theorem J4 {g:Nat->Int} {i:Nat}:∀ {N:Nat},i<N->(∀ j,j<N->j≠i->g j=0)->smN N g=g i
 | 0,h,_=>absurd h (Nat.not_lt_zero _)
 | N+1,h,hz=>by
   show smN N g+g N=g i;by_cases c:i=N
   . have:smN N g=0:=by
       rw [jF (g:=fun _=>0) fun j hj=>hz j (by omega) (by omega)];clear hz h c
       induction N with
       | zero=>rfl
       | succ k ih=>show smN k (fun _=>0)+0=0;rw [ih];rfl
     rw [this,c];omega
   . rw [J4 (N:=N) (by omega) fun j hj=>hz j (by omega),hz N (by omega) (by omega)];omega
theorem QW {N:Nat} {f:Nat->Int} (h1:1<=N) (hf:Pd (N - 1) f) (y:Nat):(smN N fun k=>f k*(tpP k (y:Int) N).fdiv (tpP k (k:Int) N))=f y:=by
 have e:(smN N fun k=>f k*(tpP k (y:Int) N).fdiv (tpP k (k:Int) N))=smN N fun k=>(fun k y=>f k*wn N k y) k y:=jF fun k hk=>by
   rw [Ob hk y,Int.mul_fdiv_cancel_left _ (HD k N)]
 rw [e];refine RL (N:=N) (d:=N - 1) (f:=fun y=>smN N fun k=>(fun k y=>f k*wn N k y) k y) (Pd.sum (fun k=>(G7 h1).smul (f k)) N) hf (by omega) (fun i hi=>?_) y;show (smN N fun k=>f k*wn N k i)=f i;rw [J4 hi fun j hj hn=>by rw [xp hi,if_neg (by omega),Int.mul_zero],xp hi,if_pos rfl,Int.mul_one]
end Pb
set_option maxHeartbeats 4000000
namespace Pk
open PySem L2 Pb
seal L2.PSs L2.PS L2.PE L2.PT L2.PW L2.PA L2.PG L2.PGs L2.PI L2.PTs L2.PC L2.PPs L2.PO
abbrev top (i:Nat):Stmt:=Hd.top i
local macro_rules|`(tactic| walk_at "rd") => `(tactic| ((try dsimp only [tYes, Tp, K1, RN, Ends.less, Er, Kd, GD, Ou, Kk, RD, Tu, NU, Ex, Rn, KM, Rv, Mg, Mv, RS, KA, Q6, Qz, On, Eo, Om, QN, RE, MB, tNext, Hq, rO, G5, Bx, gNil, Rt, RH, RF, RQ, OC, RP, RC, TM, ipI, Gw, MC, Fs, tB, BF, tC, AY, tOp, tUn, rI0, rI, rU, rEq, rNe, Ly, RU, KH, KD, tNil, Qy, OI, tCB, tBM, PU, Qr, O3, OG, RJ, DB, KQ, Mn, Lk, Oc, uz, tDNewK, tDNewT, QX, tOr, Qt, Lo, S7, Lr, tIf, List.nil_append, List.append_nil, List.set_cons_zero, List.set_cons_succ, List.getElem?_cons_zero, List.getElem?_cons_succ]);(try simp only [tYes, Tp, K1, RN, Ends.less, Er, Kd, GD, Ou, Kk, RD, Tu, NU, Ex, Rn, KM, Rv, Mg, Mv, RS, KA, Q6, Qz, On, Eo, Om, QN, RE, MB, tNext, Hq, rO, G5, Bx, gNil, Rt, RH, RF, RQ, OC, RP, RC, TM, ipI, Gw, MC, Fs, tB, BF, tC, AY, tOp, tUn, rI0, rI, rU, rEq, rNe, R3, SR, R6, Sh, SJ, Sj, Ly, RU, KH, KD, tNil, Qy, OI, tCB, tBM, PU, Qr, O3, OG, RJ, DB, KQ, Mn, Lk, Oc, uz, tDNewK, tDNewT, QX, tOr, Qt, Lo, S7, Lr, tIf, List.nil_append, List.append_nil, List.set_cons_zero, List.set_cons_succ, List.getElem?_cons_zero, List.getElem?_cons_succ, Option.some.injEq, V.int.injEq, V.bl.injEq, V.ref.injEq, List.cons.injEq, exists_eq_left, exists_eq_left', exists_and_left, exists_const, and_true, true_and, decide_eq_true_eq, Bool.not_eq_true', decide_eq_false_iff_not, Bool.true_eq_false, Bool.false_eq_true, if_true, if_false])))
set_option genSizeOf false in
set_option genInjectivity false in
structure Txt (K:PySem.W.Frag) (mg:Str->Option Value) where
 BadWeb:Addr
 UQ:mg "BadWeb"=some (.ref BadWeb)
 NoPlace:Addr
 MG:mg "NoPlace"=some (.ref NoPlace)
 NoRoad:Addr
 Ps:mg "NoRoad"=some (.ref NoRoad)
 BadWish:Addr
 Nj:mg "BadWish"=some (.ref BadWish)
 Web:Addr
 UL:mg "Web"=some (.ref Web)
 Tally:Addr
 SL:mg "Tally"=some (.ref Tally)
 Ow:Hk K NoPlace
 Rj:Hk K NoRoad
 MU:Hk K BadWish
 range:mg "range"=none
 zip:mg "zip"=none
 len:mg "len"=none
 isinstance:mg "isinstance"=none
 all:mg "all"=none
 any:mg "any"=none
 int:mg "int"=none
 bool:mg "bool"=none
 tuple:mg "tuple"=none
 list:mg "list"=none
 reversed:mg "reversed"=none
 sorted:mg "sorted"=none
 min:mg "min"=none
 max:mg "max"=none
 enumerate:mg "enumerate"=none
 sum:mg "sum"=none
 c_MOST_PLACES:∃ t,mg "MOST_PLACES"=some (.int 24 t)
 c_LEAST_TOLL:∃ t,mg "LEAST_TOLL"=some (.int 2 t)
 c_MOST_TOLL:∃ t,mg "MOST_TOLL"=some (.int 1000000 t)
 kI:Cls K Web
 n_many:NoAttr K Web "many"
 n_roads:NoAttr K Web "roads"
 cQ:Cls K Tally
 n_web:NoAttr K Tally "web"
 Nm:NoAttr K Tally "down"
 n_weights:NoAttr K Tally "weights"
 xk:NoAttr K Tally "bearers"
 Nt:NoAttr K Tally "kids"
 n_rests:NoAttr K Tally "rests"
section
variable {P:Program} {w:World} {K:PySem.W.Frag} {mg:Str->Option Value} {base:Heap} {CX:CXT}
def rP (T:Txt K mg):Sp:=fun vs H Q _=>∃ (m:Int) (t:Addr) (xs:List V),vs=[.int m,.ref t]/\SqT K H t xs/\1<=m/\m<=24/\(xs.length:Int)=m - 1/\Q .non H
abbrev bB:Stmt:=top 15
theorem Cq:FnScope ["many","roads"] ["many","roads"] (aa bB):=FnScope.of (by kernel_rfl)
theorem mK:NmL (aa bB) "many":=.of (by kernel_rfl)
theorem uG:NmL (aa bB) "roads":=.of (by kernel_rfl)
theorem ip:NmG (aa bB) "MOST_PLACES":=.of (by kernel_rfl)
theorem IU:NmG (aa bB) "BadWeb":=.of (by kernel_rfl)
theorem jq:NmG (aa bB) "len":=.of (by kernel_rfl)
theorem BW (T:Txt K mg) (hq:aQ (CXe P w)) {f:Addr} {fd:FuncData} (D:Df K mg "check_counts" bB ["many","roads"] f fd):FnOk P w K mg base (CXe P w) 1 f fd ["many","roads"] (rP T):=by
 refine D.F.okC Cq (fun vs H Q E h=>?_) (fun cdv A outer s H vs Q E hr h=>?_)
 . obtain ⟨m,t,xs,rfl,_⟩:=h
   rfl
 . obtain ⟨m,t,xs,rfl,ht,h1,h2,hl,k⟩:=h;refine ⟨_,(aj (bT (ub (Ho BQ BQ am (pvl 0 mK) (AL ip.g T.c_MOST_PLACES (hd:=ip.d)))) (ap on) bp) (ap (bT (aX sA (cz cZ jq.g T.len jI (ag (pvl 1 uG) ak) (hn:=jq.n) (hdb:=jq.d)) (aq gY (pvl 0 mK) am) (bc _)) (ap on) bp))),?_⟩;rw [show L2.start ["many","roads"] [V.int m,V.ref t]=[some (V.int m),some (V.ref t)] from rfl];walk_at "rd";rw [if_pos h1,if_neg (by omega)];exact ⟨xs,.inr ht,by rw [if_neg (by omega)];exact k⟩
def sL (T:Txt K mg):Sp:=fun vs H Q _=>∃ m n:Int,vs=[.int m,.int n]/\Q (.bl (decide (0<=n) && decide (n<m))) H
abbrev dj:Stmt:=top 14
theorem Ie:FnScope ["many","number"] ["many","number"] (aa dj):=FnScope.of (by kernel_rfl)
theorem An:NmL (aa dj) "many":=.of (by kernel_rfl)
theorem yE:NmL (aa dj) "number":=.of (by kernel_rfl)
theorem Ik (T:Txt K mg) (hq:aQ (CXe P w)) {f:Addr} {fd:FuncData} (D:Df K mg "is_place" dj ["many","number"] f fd):FnOk P w K mg base (CXe P w) 1 f fd ["many","number"] (sL T):=by
 refine D.F.okC Ie (fun vs H Q E h=>?_) (fun cdv A outer s H vs Q E hr h=>?_)
 . obtain ⟨m,n,rfl,_⟩:=h
   rfl
 . obtain ⟨m,n,rfl,k⟩:=h;refine ⟨_,(ap (aO (P4 BQ y7 am (pvl 1 yE) (pvl 0 An)))),?_⟩;rw [show L2.start ["many","number"] [V.int m,V.int n]=[some (V.int m),some (V.int n)] from rfl];walk_at "rd";by_cases c:0<=n
   . simpa [c] using k
   . simpa [c] using k
def wB (T:Txt K mg):Sp:=fun vs H Q _=>∃ (m:Int) (p:Addr) (r:Road),vs=[.int m,.ref p]/\H p=some (.tup (j7 r))/\0<=r.a/\r.a<m/\0<=r.b/\r.b<m/\r.a≠r.b/\Q .non H
abbrev cr:Stmt:=top 16
theorem ED:FnScope ["many","road"] ["many","road"] (aa cr):=FnScope.of (by kernel_rfl)
theorem pf:NmL (aa cr) "many":=.of (by kernel_rfl)
theorem gF:NmL (aa cr) "road":=.of (by kernel_rfl)
theorem eK:NmG (aa cr) "is_place":=.of (by kernel_rfl)
theorem Ln:NmG (aa cr) "BadWeb":=.of (by kernel_rfl)
theorem E9 (T:Txt K mg) (hq:aQ (CXe P w)) {f:Addr} {fd:FuncData} (D:Df K mg "check_ends" cr ["many","road"] f fd) {eB:Addr} {kN:FuncData} (cB:Df K mg "is_place" dj ["many","number"] eB kN) (G_is_place:FnOk P w K mg base (CXe P w) 1 eB kN ["many","number"] (sL T)):FnOk P w K mg base (CXe P w) 2 f fd ["many","road"] (wB T):=by
 refine D.F.okC ED (fun vs H Q E h=>?_) (fun cdv A outer s H vs Q E hr h=>?_)
 . obtain ⟨m,p,r,rfl,_⟩:=h
   rfl
 . obtain ⟨m,p,r,rfl,hp,a0,a1,b0,b1,ne,k⟩:=h;refine ⟨_,(aj (bT (PW.pt (Mo (ub (ul (au G_is_place (hr.mono (by decide)) eK.g cB.m cB.F.kp cB.b .nil (aL hq) (ag (pvl 0 pf) (ag (aH jc (pvl 1 gF) am (fun _ _=>rfl)) ak)) (hdb:=eK.d)))) (MI (ub (ul (au G_is_place (hr.mono (by decide)) eK.g cB.m cB.F.kp cB.b .nil (aL hq) (ag (pvl 0 pf) (ag (aH jc (pvl 1 gF) am (fun _ _=>rfl)) ak)) (hdb:=eK.d))))))) (ap on) bp) (ap (bT (aX fG (aH jc (pvl 1 gF) am (fun _ _=>rfl)) (aH jc (pvl 1 gF) am (fun _ _=>rfl)) (bc _)) (ap on) bp))),?_⟩;rw [show L2.start ["many","road"] [V.int m,V.ref p]=[some (V.int m),some (V.ref p)] from rfl];walk_at "rd";refine ixT hp rfl ⟨m,r.a,rfl,_,rfl,?_⟩;rw [if_neg (by simp [a0,a1])];refine ixT hp rfl ⟨m,r.b,rfl,_,rfl,?_⟩;rw [if_neg (by simp [b0,b1])];refine ixT hp rfl (ixT hp rfl ⟨rfl,?_⟩);rw [if_neg (by simpa using ne)];exact k
def pM (T:Txt K mg):Sp:=fun vs H Q _=>∃ (t:Addr) (ps:List Addr) (rs:List Road) (n:Int),vs=[.ref t,.int n]/\SqT K H t (ps.map V.ref)/\RoadsAt H ps rs/\rs.length<=1000 /\
 ∀ l H',H l=none->Same H H'->H' l=some (.lst ((cw rs n).map V.int))->Q (.ref l) H'
abbrev bZ:Stmt:=top 19
theorem pR:FnScope ["roads","place","ends","road"] ["roads","place"] (aa bZ):=FnScope.of (by kernel_rfl)
theorem wX:NmL (aa bZ) "roads":=.of (by kernel_rfl)
theorem nA:NmL (aa bZ) "place":=.of (by kernel_rfl)
theorem gA:NmL (aa bZ) "ends":=.of (by kernel_rfl)
theorem eT:NmL (aa bZ) "road":=.of (by kernel_rfl)
theorem Fj (T:Txt K mg) (hq:aQ (CXe P w)) {f:Addr} {fd:FuncData} (D:Df K mg "other_ends" bZ ["roads","place"] f fd):FnOk P w K mg base (CXe P w) 1 f fd ["roads","place"] (pM T):=by
 refine D.F.okC pR (fun vs H Q E h=>?_) (fun cdv A outer s H vs Q E hr h=>?_)
 . obtain ⟨t,ps,rs,n,rfl,_⟩:=h
   rfl
 . obtain ⟨t,ps,rs,n,rfl,ht,hp,hl,k⟩:=h;refine ⟨_,(aj (aw (i:=2) pR.nd rfl (Or.inl gA.l) (cg ak)) (aj (cq PassesOwn.never rfl (xq (pvl 0 wX)) (ax (i:=3) pR.nd rfl (Or.inl eT.l)) (aj (bT (aX fG (aH jc (pvl 3 eT) am (fun _ _=>rfl)) (pvl 1 nA) (bc _)) (ap (bw (gh PySem.F.plainAttrs_list PySem.F.slot_list_append PySem.F.type_list_append cG (pvl 2 gA) (ag (aH jc (pvl 3 eT) am (fun _ _=>rfl)) ak)))) bp) (ap (bT (aX fG (aH jc (pvl 3 eT) am (fun _ _=>rfl)) (pvl 1 nA) (bc _)) (ap (bw (gh PySem.F.plainAttrs_list PySem.F.slot_list_append PySem.F.type_list_append cG (pvl 2 gA) (ag (aH jc (pvl 3 eT) am (fun _ _=>rfl)) ak)))) bp)))) (ap (aO (pvl 2 gA))))),?_⟩;rw [show L2.start ["roads","place","ends","road"] [V.ref t,V.int n]=[some (V.ref t),some (V.int n),none,none] from rfl];walk_at "rd";refine ⟨by decide,fun l hn=>?_⟩;have hlen:ps.length=rs.length:=Paired.length hp;refine ⟨⟨_,Same.tup (Same.new _ hn) ht⟩,CM (xs:=ps.map V.ref) (fun i σ H2=>H2=upd H l (.lst ((cw (rs.take i) n).map V.int))/\∃ v,σ=[some (.ref t),some (.int n),some (.ref l),v]) ⟨rfl,_,rfl⟩ (fun i σ H2 _ z=>by rw [z.1];exact Same.tup (Same.new _ hn) ht) ?_ ?_⟩
   . rintro i x σ H2 hi ⟨rfl,v,rfl⟩;obtain ⟨p,r,rfl,h1,h2,h3⟩:=hp.get hi;have np:p≠l:=ay h3 hn;have hil:i<rs.length:=(List.getElem?_eq_some_iff.mp h2).1;have et:rs.take (i+1)=rs.take i++[r]:=(by rw [List.take_succ,h2];rfl);have hb:(cw (rs.take i) n).length<=2000:=Nat.le_trans (Gb _ _) (by rw [List.length_take];omega);have hx:∀ o,upd H l o p=some (.tup (j7 r)):=fun o=>by rw [ao np];exact h3
     walk_at "rd";refine ixT (hx _) rfl ?_;walk_at "rd";have fin:∀ (ys:List Int),(cw (rs.take i) n++ys)=cw (rs.take (i+1)) n->upd H l (.lst ((cw (rs.take i) n).map V.int++ys.map V.int))=upd H l (.lst ((cw (rs.take (i+1)) n).map V.int)):=fun ys e=>by
       rw [<- List.map_append,e]
     have e1:sG n r=(if r.a=n then [r.b] else [])++(if r.b=n then [r.a] else []):=rfl;by_cases ca:r.a=n
     . rw [if_pos ca];refine ⟨tyL ah,ixT (hx _) rfl (pN ah (bG (by rw [List.length_map];omega)) ?_)⟩;rw [qC];refine ixT (hx _) rfl ?_;walk_at "rd";by_cases cb:r.b=n
       . rw [if_pos cb];refine ⟨tyL ah,ixT (hx _) rfl (pN ah (bG (by rw [List.length_append,List.length_map];simp;omega)) ?_)⟩;rw [qC,List.append_assoc];exact ⟨fin [r.b,r.a] (by rw [et,sj,e1,if_pos ca,if_pos cb];rfl),_,rfl⟩
       . rw [if_neg cb];exact ⟨fin [r.b] (by rw [et,sj,e1,if_pos ca,if_neg cb];rfl),_,rfl⟩
     . rw [if_neg ca];refine ixT (hx _) rfl ?_;walk_at "rd";by_cases cb:r.b=n
       . rw [if_pos cb];refine ⟨tyL ah,ixT (hx _) rfl (pN ah (bG (by rw [List.length_map];omega)) ?_)⟩;rw [qC];exact ⟨fin [r.a] (by rw [et,sj,e1,if_neg ca,if_pos cb];rfl),_,rfl⟩
       . rw [if_neg cb];have:=fin [] (by rw [et,sj,e1,if_neg ca,if_neg cb];rfl);rw [List.map_nil,List.append_nil] at this;exact ⟨this,_,rfl⟩
   . rintro σ H2 ⟨rfl,v,rfl⟩;rw [List.length_map,hlen,List.take_length];exact ⟨_,rfl,k l _ hn (Same.new _ hn) ah⟩
def kb (ks:List Int):List (Key × V):=ks.map fun k=>((Sum.inl k:Key),V.bl true)
theorem Ea (ks:List Int):(kb ks).length=ks.length:=by unfold kb;rw [List.length_map]
theorem Gd (ks:List Int) (e:Int):bQ (kb ks) (Sum.inl e:Key)=if e∈ks then some (V.bl true) else none:=by
 unfold kb
 induction ks with
 | nil=>rfl
 | cons k ks ih =>
   rw [List.map_cons];by_cases c:k=e
   . rw [fe (by rw [c]),if_pos (by rw [c];exact List.mem_cons_self)]
   . rw [fh (fun z=>c (Sum.inl.inj z)),ih];by_cases d:e∈ks
     . rw [if_pos d,if_pos (List.mem_cons_of_mem _ d)]
     . rw [if_neg d,if_neg (fun z=>by rcases List.mem_cons.mp z with z|z;exact c z.symm;exact d z)]
theorem QK {ks:List Int} {e:Int} (h:e ∉ ks):cX (kb ks) (Sum.inl e:Key) (V.bl true)=kb (ks++[e]):=by
 rw [FZ _ (by rw [Gd,if_neg h])];unfold kb;rw [List.map_append]
 rfl
def sk (T:Txt K mg):Sp:=fun vs H Q _=>∃ (m:Int) (t:Addr) (ps:List Addr) (rs:List Road),vs=[.int m,.ref t]/\SqT K H t (ps.map V.ref)/\RoadsAt H ps rs/\Good m rs/\∀ H',Same H H'->Q .non H'
abbrev aU:Stmt:=top 18
theorem gC:FnScope ["many","roads","reached","waiting","place","end"] ["many","roads"] (aa aU):=FnScope.of (by kernel_rfl)
theorem vX:NmL (aa aU) "many":=.of (by kernel_rfl)
theorem tY:NmL (aa aU) "roads":=.of (by kernel_rfl)
theorem dM:NmL (aa aU) "reached":=.of (by kernel_rfl)
theorem dJ:NmL (aa aU) "waiting":=.of (by kernel_rfl)
theorem mh:NmL (aa aU) "place":=.of (by kernel_rfl)
theorem f8:NmL (aa aU) "end":=.of (by kernel_rfl)
theorem iY:NmG (aa aU) "other_ends":=.of (by kernel_rfl)
theorem jr:NmG (aa aU) "len":=.of (by kernel_rfl)
theorem HV:NmG (aa aU) "BadWeb":=.of (by kernel_rfl)
theorem Bg (T:Txt K mg) (hq:aQ (CXe P w)) {f:Addr} {fd:FuncData} (D:Df K mg "check_joined" aU ["many","roads"] f fd) {cV:Addr} {jb:FuncData} (cF:Df K mg "other_ends" bZ ["roads","place"] cV jb) (G_other_ends:FnOk P w K mg base (CXe P w) 1 cV jb ["roads","place"] (pM T)):FnOk P w K mg base (CXe P w) 2 f fd ["many","roads"] (sk T):=by
 refine D.F.okC gC (fun vs H Q E h=>?_) (fun cdv A outer s H vs Q E hr h=>?_)
 . obtain ⟨m,t,ps,rs,rfl,_⟩:=h
   rfl
 . obtain ⟨m,t,ps,rs,rfl,ht,hp,g,k⟩:=h;have hu:=sB hr;refine ⟨_,(aj (aw (i:=2) gC.nd rfl (Or.inl dM.l) (Sv (OD am BM Su) rfl rfl (List.cons_ne_nil _ _) (by decide))) (aj (aw (i:=3) gC.nd rfl (Or.inl dJ.l) (cg (ag am ak))) (aj (nN PassesOwn.never (rh (pvl 3 dJ) (fun _=>rfl)) (aj (aw (i:=4) gC.nd rfl (Or.inl mh.l) (B5 PySem.F.plainAttrs_list PySem.F.slot_list_pop PySem.F.type_list_pop CB (pvl 3 dJ))) (ap (cq PassesOwn.never rfl (eY (au G_other_ends (hr.mono (by decide)) iY.g cF.m cF.F.kp cF.b .nil (aL hq) (ag (pvl 1 tY) (ag (pvl 4 mh) ak)) (hdb:=iY.d))) (ax (i:=5) gC.nd rfl (Or.inl f8.l)) (ap (bT (Bh (En hu (pvl 5 f8) (pvl 2 dM))) (aj (uf hu (pvl 2 dM) (pvl 5 f8) BM rfl) (ap (bw (gh PySem.F.plainAttrs_list PySem.F.slot_list_append PySem.F.type_list_append cG (pvl 3 dJ) (ag (pvl 5 f8) ak))))) bp)))))) (ap (bT (aX sA (cz NO jr.g T.len jI (ag (pvl 2 dM) ak) (hn:=jr.n) (hdb:=jr.d)) (pvl 0 vX) (bc _)) (ap on) bp))))),?_⟩;rw [show L2.start ["many","roads","reached","waiting","place","end"] [V.int m,V.ref t]=[some (V.int m),some (V.ref t),none,none,none,none] from rfl];have m1:=g.m1;have m24:=g.m24;have glen:=g.len;walk_at "rd";intro d hd;refine ⟨ah,[(Sum.inl 0,.bl true)],rfl,by decide,?_⟩;rw [qC];refine ⟨by decide,fun w0 hw=>?_⟩;have ed:uN [] [((Sum.inl 0:Key),V.bl true)]=kb [0]:=rfl;rw [ed];have ndw:w0≠d:=fun z=>by rw [z,ah] at hw;cases hw
   have hw0:H w0=none:=by rw [ao ndw] at hw;exact hw
   refine yX (fun n σ H2=>∃ (ks ws:List Int) (v4 v5:Option V),n=2*(m.toNat - ks.length)+ws.length/\σ=[some (.int m),some (.ref t),some (.ref d),some (.ref w0),v4,v5]/\Same H H2/\H2 d=some (.dK (kb ks))/\H2 w0=some (.lst (ws.map V.int))/\JInv m rs ks ws) _ ⟨[0],[0],none,none,rfl,rfl,?_,?_,ah,JInv.start m1⟩ ?_
   . exact Same.trans (Same.new _ hd) (Same.new _ hw)
   . rw [ao ndw.symm,ah]
   rintro n σ H2 NW hN hN2 ⟨ks,ws,v4,v5,rfl,rfl,sm,h1,h2,J⟩;have kl:=cH (by omega) J.nd J.rng;refine ⟨_,rfl,!(ws.map V.int).isEmpty,.inl ⟨_,SqL.of h2,rfl⟩,?_⟩;rcases List.eq_nil_or_concat ws with rfl|⟨ws',p,rfl⟩
   . -- nothing waits: all places have been reached
     have full:=J.all m1 g.jn;refine Ts ?_;walk_at "rd";refine ⟨kb ks,h1,?_⟩;rw [Ea,if_neg (by omega)];exact k _ sm
   . rw [List.concat_eq_append] at J h2 hN hN2 ⊢;have e1:(!(List.map V.int (ws'++[p])).isEmpty)=true:=(by simp);rw [e1];refine UC ⟨NW,hN2,?_⟩;walk_at "rd";rw [List.map_append,List.map_cons,List.map_nil] at h2;refine ⟨tyL h2,La h2 ?_⟩;have ndw':d≠w0:=ndw.symm;have sm2:Same H (upd H2 w0 (.lst (ws'.map V.int))):=fun b o e=>by rw [ao (ay e hw0)];exact sm b o e
     refine ⟨t,ps,rs,p,rfl,Same.tup sm2 ht,RoadsAt.same sm2 hp,by omega,fun l H3 hn s3 hl=>?_⟩;have nlw:w0≠l:=ay (o:=.lst (ws'.map V.int)) ah hn;have nld:d≠l:=ay (o:=.dK (kb ks)) (by rw [ao ndw'];exact h1) hn;have hl0:H l=none:=sm2.free hn;refine ⟨l,rfl,⟨_,SqL.of hl⟩,xV (K:=K) (xs:=(cw rs p).map V.int) (fun i σ H4=>∃ (v5:Option V),σ=[some (.int m),some (.ref t),some (.ref d),some (.ref w0),some (.int p),v5]/\Same H H4/\H4 l=some (.lst ((cw rs p).map V.int)) /\
       ∃ ks4 ws4:List Int,H4 d=some (.dK (kb ks4))/\H4 w0=some (.lst (ws4.map V.int))/\JMid m rs p ((cw rs p).take i) ks4 ws4 ks ws'.length) ?_ (fun i σ H4 _ z=>by obtain ⟨_,_,_,z,_⟩:=z;exact SqL.of z) ?_ ?_⟩
     . refine ⟨_,rfl,sm2.trans s3,hl,ks,ws',?_,?_,?_⟩
       . exact s3 _ _ (by rw [ao ndw'];exact h1)
       . exact s3 _ _ ah
       . rw [List.take_zero];exact JMid.start J
     . rintro i x σ H4 NI hI hi ⟨v5,rfl,s4,hl4,ks4,ws4,hd4,hw4,M⟩;rw [List.getElem?_map] at hi;obtain ⟨e,he,rfl⟩:∃ e,(cw rs p)[i]?=some e/\V.int e=x:=by
         cases q:(cw rs p)[i]? with
         | none=>rw [q] at hi;cases hi
         | some e=>rw [q] at hi;exact ⟨e,rfl,Option.some.inj hi⟩
       have er:=Pi g.ok (List.mem_of_getElem? he);have et:(cw rs p).take (i+1)=(cw rs p).take i++[e]:=(by rw [List.take_succ,he];rfl);have st:=M.step er.1 er.2;have k4:=cH (by omega) M.nd M.rng;have mu4:=M.mu;walk_at "rd";refine ⟨_,DGet.k (k:=Sum.inl e) hd4,?_⟩;rw [Gd];by_cases c:e∈ks4
       . rw [if_pos c];rw [if_neg (by simp)];refine hI _ _ ⟨_,rfl,s4,hl4,ks4,ws4,hd4,hw4,?_⟩;rw [et];unfold Cb at st;rw [if_pos c] at st;exact st
       . rw [if_neg c];rw [if_pos (by simp)];refine ⟨_,DPut.k (k:=Sum.inl e) hd4 (bG (by rw [Ea];omega)),?_⟩;rw [QK c];have hw5:upd H4 d (.dK (kb (ks4++[e]))) w0=some (.lst (ws4.map V.int)):=(by rw [ao ndw];exact hw4);refine ⟨tyL hw5,pN hw5 (bG (by rw [List.length_map];have:=M.wl;omega)) ?_⟩;have hmid:=M.mu;refine hI _ _ ⟨_,rfl,fun b o z=>?_,?_,ks4++[e],ws4++[e],?_,?_,?_⟩
         . rw [ao (ay z hw0),ao (ay z hd)];exact s4 b o z
         . rw [ao nlw.symm,ao nld.symm];exact hl4
         . rw [ao ndw',ah]
         . rw [ah,List.map_append];rfl
         . rw [et];unfold Cb at st;rw [if_neg c] at st;exact st
     . rintro σ H4 ⟨v5,rfl,s4,hl4,ks4,ws4,hd4,hw4,M⟩;rw [List.length_map,List.take_length] at M;have k4:=cH (by omega) M.nd M.rng;have mu4:=M.mu;have up4:=M.up;refine hN _ _ _ ?_ ⟨ks4,ws4,some (.int p),v5,rfl,rfl,s4,hd4,hw4,M.done⟩;rw [List.length_append];simp only [List.length_cons,List.length_nil];omega
def ug (T:Txt K mg):Sp:=fun vs H Q _=>∃ (p:Addr) (r:Road),vs=[.ref p]/\H p=some (.tup (j7 r))/\2<=r.t/\r.t<=1000000/\2<=r.u/\r.u<=1000000/\∀ H',Same H H'->Q .non H'
abbrev bJ:Stmt:=top 17
theorem tZ:FnScope ["road","number"] ["road"] (aa bJ):=FnScope.of (by kernel_rfl)
theorem ng:NmL (aa bJ) "road":=.of (by kernel_rfl)
theorem mr:NmL (aa bJ) "number":=.of (by kernel_rfl)
theorem jw:NmG (aa bJ) "LEAST_TOLL":=.of (by kernel_rfl)
theorem jU:NmG (aa bJ) "MOST_TOLL":=.of (by kernel_rfl)
theorem J7:NmG (aa bJ) "BadWeb":=.of (by kernel_rfl)
theorem DR (T:Txt K mg) (hq:aQ (CXe P w)) {f:Addr} {fd:FuncData} (D:Df K mg "check_tolls" bJ ["road"] f fd):FnOk P w K mg base (CXe P w) 1 f fd ["road"] (ug T):=by
 refine D.F.okC tZ (fun vs H Q E h=>?_) (fun cdv A outer s H vs Q E hr h=>?_)
 . obtain ⟨p,r,rfl,_⟩:=h
   rfl
 . obtain ⟨p,r,rfl,hp,t0,t1,u0,u1,k⟩:=h;refine ⟨_,(ap (cq PassesOwn.never rfl (xq (eL (ag (aH jc (pvl 0 ng) am (fun _ _=>rfl)) (ag (aH jc (pvl 0 ng) am (fun _ _=>rfl)) ak)))) (ax (i:=1) tZ.nd rfl (Or.inl mr.l)) (ap (bT (ub (Ho BQ BQ (AL jw.g T.c_LEAST_TOLL (hd:=jw.d)) (pvl 1 mr) (AL jU.g T.c_MOST_TOLL (hd:=jU.d)))) (ap on) bp)))),?_⟩;rw [show L2.start ["road","number"] [V.ref p]=[some (V.ref p),none] from rfl];walk_at "rd";refine ixT hp rfl (ixT hp rfl ⟨aJ (by simp),fun q hn=>?_⟩);have e1:upd H q (.tup [.int r.t,.int r.u]) q=some (.tup [.int r.t,.int r.u]):=ah;refine ⟨⟨_,SqT.of e1⟩,CM (K:=K) (xs:=[.int r.t,.int r.u]) (fun i σ H2=>H2=upd H q (.tup [.int r.t,.int r.u])/\∃ v,σ=[some (.ref p),v]) ⟨rfl,_,rfl⟩ (fun i σ H2 _ z=>by rw [z.1];exact SqT.of e1) ?_ ?_⟩
   . rintro i x σ H2 hi ⟨rfl,v,rfl⟩;have hx:∃ n:Int,x=.int n/\2<=n/\n<=1000000:=by
       match i,hi with
       | 0,hi=>exact ⟨r.t,by simpa using hi.symm,t0,t1⟩
       | 1,hi=>exact ⟨r.u,by simpa using hi.symm,u0,u1⟩
     obtain ⟨n,rfl,n0,n1⟩:=hx;walk_at "rd";rw [if_pos n0,if_neg (by omega)];exact ⟨_,rfl⟩
   . rintro σ H2 ⟨rfl,v,rfl⟩;exact k _ (Same.new _ hn)
/-- the attributes of a web -/
def Cr (m:Int) (t:Addr):List (Str × V):=ar "roads" (.ref t) (ar "many" (.int m) [])
theorem UF:¬ (("many":Str)="roads"):=by decide +kernel
theorem my (m:Int) (t:Addr):(Cr m t).lookup ("many":Str)=some (.int m):=by
 unfold Cr;rw [aE,if_neg UF,aE,if_pos rfl]
theorem zO (m:Int) (t:Addr):(Cr m t).lookup ("roads":Str)=some (.ref t):=by
 unfold Cr;rw [aE,if_pos rfl]
/-- a web of m places and the roads rs stands at p,its tuple at t,the roads' tuples at ps -/
structure WebAt (C:Addr) (H:Hp) (p:Addr) (m:Int) (t:Addr) (ps:List Addr) (rs:List Road):Prop where
 ob:∃ dx,H p=some (.ins C dx (Cr m t))
 tu:H t=some (.tup (ps.map V.ref))
 ro:RoadsAt H ps rs
 go:Good m rs
theorem WebAt.same {C:Addr} {H H':Hp} {p:Addr} {m:Int} {t:Addr} {ps:List Addr} {rs:List Road} (e:Same H H') (h:WebAt C H p m t ps rs):WebAt C H' p m t ps rs :=
 ⟨let ⟨dx,q⟩:=h.ob;⟨dx,e _ _ q⟩,e _ _ h.tu,RoadsAt.same e h.ro,h.go⟩
def m3 (T:Txt K mg):Sp:=fun vs H Q _=>∃ (p dx:Addr) (m:Int) (c:Bool) (a:Addr) (ps:List Addr) (rs:List Road),vs=[.ref p,.int m,.ref a]/\H p=some (.ins T.Web dx [])/\SqX K c H a (ps.map V.ref)/\RoadsAt H ps rs/\Good m rs /\
 ∀ t H',H t=none->WebAt T.Web H' p m t ps rs->(∀ b o,H b=some o->b≠p->H' b=some o)->Q .non H'
abbrev aV:Stmt:=Ku (top 10) 0
theorem mP:FnScope ["self","many","roads","kept","road"] ["self","many","roads"] (aa aV):=FnScope.of (by kernel_rfl)
theorem mS:NmL (aa aV) "self":=.of (by kernel_rfl)
theorem fI:NmL (aa aV) "many":=.of (by kernel_rfl)
theorem uI:NmL (aa aV) "roads":=.of (by kernel_rfl)
theorem dy:NmL (aa aV) "kept":=.of (by kernel_rfl)
theorem iL:NmL (aa aV) "road":=.of (by kernel_rfl)
theorem gZ:NmG (aa aV) "tuple":=.of (by kernel_rfl)
theorem ij:NmG (aa aV) "check_counts":=.of (by kernel_rfl)
theorem iX:NmG (aa aV) "check_ends":=.of (by kernel_rfl)
theorem im:NmG (aa aV) "check_tolls":=.of (by kernel_rfl)
theorem gX:NmG (aa aV) "check_joined":=.of (by kernel_rfl)
theorem Bt (T:Txt K mg) (hq:aQ (CXe P w)) {f:Addr} {fd:FuncData} (F:Fun K "__init__" "Web.__init__" aV f fd) {d9:Addr} {sx:FuncData} (fQ:Df K mg "check_counts" bB ["many","roads"] d9 sx) (G_check_counts:FnOk P w K mg base (CXe P w) 1 d9 sx ["many","roads"] (rP T)) {fX:Addr} {wU:FuncData} (ii:Df K mg "check_ends" cr ["many","road"] fX wU) (G_check_ends:FnOk P w K mg base (CXe P w) 2 fX wU ["many","road"] (wB T)) {dX:Addr} {sf:FuncData} (fP:Df K mg "check_joined" aU ["many","roads"] dX sf) (G_check_joined:FnOk P w K mg base (CXe P w) 2 dX sf ["many","roads"] (sk T)) {fj:Addr} {uF:FuncData} (gq:Df K mg "check_tolls" bJ ["road"] fj uF) (G_check_tolls:FnOk P w K mg base (CXe P w) 1 fj uF ["road"] (ug T)):FnOk P w K mg base (CXe P w) 3 f fd ["self","many","roads"] (m3 T):=by
 refine F.okC mP (fun vs H Q E h=>?_) (fun cdv A outer s H vs Q E hr h=>?_)
 . obtain ⟨p,dx,m,c,a,ps,rs,rfl,_⟩:=h
   rfl
 . obtain ⟨p,dx,m,c,a,ps,rs,rfl,hp,ha,hro,g,k⟩:=h;refine ⟨_,(aj (aw (i:=3) mP.nd rfl (Or.inl dy.l) (mm wC gZ.g T.tuple HH (ag (eW rfl (wp (Nc:=["road"]) 1 (by decide +kernel) (by decide +kernel) rfl (by decide +kernel) rfl) (Uc c (pvl 2 uI)) (fun _ _ _ _=>(ax (i:=0) (show (["road"]:List Str).Nodup from by decide +kernel) rfl (Or.inl rfl))) (fun _ _ _ _=>g0) (fun _ _ _ _=>(mm (C9 K rfl) (by rfl) T.tuple HH (ag (pv 0) ak)))) ak) (hn:=gZ.n) (hdb:=gZ.d))) (aj (bw (au G_check_counts (hr.mono (by decide)) ij.g fQ.m fQ.F.kp fQ.b .nil (aL hq) (ag (pvl 1 fI) (ag (pvl 3 dy) ak)) (hdb:=ij.d))) (aj (cq PassesOwn.never rfl (xq (pvl 3 dy)) (ax (i:=4) mP.nd rfl (Or.inl iL.l)) (aj (bw (au G_check_ends (hr.mono (by decide)) iX.g ii.m ii.F.kp ii.b .nil (aL hq) (ag (pvl 1 fI) (ag (pvl 4 iL) ak)) (hdb:=iX.d))) (ap (bw (au G_check_tolls (hr.mono (by decide)) im.g gq.m gq.F.kp gq.b .nil (aL hq) (ag (pvl 4 iL) ak) (hdb:=im.d)))))) (aj (bw (au G_check_joined (hr.mono (by decide)) gX.g fP.m fP.F.kp fP.b .nil (aL hq) (ag (pvl 1 fI) (ag (pvl 3 dy) ak)) (hdb:=gX.d))) (aj (oW (pvl 0 mS) (pvl 1 fI) rfl) (ap (oW (pvl 0 mS) (pvl 3 dy) rfl))))))),?_⟩;rw [show L2.start ["self","many","roads","kept","road"] [V.ref p,V.int m,V.ref a]=[some (V.ref p),some (V.int m),some (V.ref a),none,none] from rfl];walk_at "rd";refine ⟨⟨_,ha⟩,fun l hl=>?_⟩;have hlen:ps.length=rs.length:=Paired.length hro;have glen:=g.len;have m24:=g.m24;have hl1:Same H (upd H l (.lst [])):=Same.new _ hl;refine lU (K:=K) (xs:=ps.map V.ref) (fun i ys σ H2=>H2=upd H l (.lst ((ps.take i).map V.ref))/\ys=(ps.take i).map V.ref/\∃ v,σ=[v]) ⟨rfl,rfl,_,rfl⟩ (fun i ys σ H2 _ ⟨z,_⟩=>by rw [z];exact Same.sqX (Same.new _ hl) ha) ?_ ?_
   . rintro i x ys σ H2 N hN hi ⟨rfl,rfl,v,rfl⟩;obtain ⟨q,r,rfl,h1,h2,h3⟩:=hro.get hi;have nq:q≠l:=ay h3 hl;have hil:i<ps.length:=(List.getElem?_eq_some_iff.mp h1).1;have et:ps.take (i+1)=ps.take i++[q]:=(by rw [List.take_succ,h1];rfl);walk_at "rd";refine ⟨j7 r,.inr ⟨SqT.of (by rw [ao nq];exact h3),ah,bG (by rw [List.length_map,List.length_take];omega),hN _ _ _ ⟨?_,?_,_,rfl⟩⟩⟩
     . rw [qC,et,List.map_append];rfl
     . rw [et,List.map_append];rfl
   . rintro ys σ H2 ⟨rfl,rfl,v,rfl⟩;rw [List.length_map,List.take_length];refine ⟨l,rfl,ps.map V.ref,.inl ⟨SqL.of ah,fun t ht=>?_⟩⟩;have s1:Same H (upd H l (.lst (ps.map V.ref))):=Same.new _ hl;have s2:Same (upd H l (.lst (ps.map V.ref))) (upd (upd H l (.lst (ps.map V.ref))) t (.tup (ps.map V.ref))):=Same.new _ ht;have ht0:H t=none:=s1.free ht;have ht1:∀ {H':Hp},Same (upd (upd H l (.lst (ps.map V.ref))) t (.tup (ps.map V.ref))) H'->H' t=some (.tup (ps.map V.ref)):=fun e=>e _ _ ah;refine ⟨m,t,ps.map V.ref,rfl,SqT.of ah,g.m1,g.m24,by rw [List.length_map];omega,⟨_,SqT.of ah⟩,?_⟩;refine GM (K:=K) (xs:=ps.map V.ref) (fun i σ H3=>Same (upd (upd H l (.lst (ps.map V.ref))) t (.tup (ps.map V.ref))) H3/\∃ v,σ=[some (.ref p),some (.int m),some (.ref a),some (.ref t),v]) ⟨Same.refl _,_,rfl⟩ (fun i σ H3 _ ⟨z,_⟩=>SqT.of (ht1 z)) ?_ ?_
     . rintro i x σ H3 N hN hi ⟨s3,v,rfl⟩;have s03:=s1.trans (s2.trans s3);obtain ⟨q,r,rfl,h1,h2,h3⟩:=hro.get hi;have ok:=g.ok r (List.mem_of_getElem? h2);walk_at "rd";refine ⟨m,q,r,rfl,s03 _ _ h3,ok.a0,ok.a1,ok.b0,ok.b1,ok.ne,?_⟩;exact ⟨q,r,rfl,s03 _ _ h3,ok.t0,ok.t1,ok.u0,ok.u1,fun H4 s4=>hN _ _ ⟨s3.trans s4,_,rfl⟩⟩
     . rintro σ H3 ⟨s3,v,rfl⟩;have s03:=s1.trans (s2.trans s3);walk_at "rd";refine ⟨m,t,ps,rs,rfl,SqT.of (ht1 s3),RoadsAt.same s03 hro,g,fun H4 s4=>?_⟩;have s04:=s03.trans s4;have ntp:t≠p:=fun z=>by rw [z,hp] at ht0;cases ht0
       refine ⟨T.Web,dx,[],s04 _ _ hp,T.kI,T.n_many,by decide,?_⟩;refine ⟨T.Web,dx,_,ah,T.kI,T.n_roads,by show 1<1000;decide,?_⟩;rw [qC];refine k t _ ht0 ⟨⟨dx,ah⟩,?_,?_,g⟩ fun b o hb nb=>?_
       . rw [ao ntp];exact ht1 (s3.trans s4)
       . refine Paired.imp' (fun q r hq=>?_) hro;rw [ao (dh hq hp (by intro z;cases z))];exact s04 _ _ hq
       . rw [ao nb];exact s04 _ _ hb
/-- Web(m,roads),at a call: nothing is changed,a new web stands -/
theorem S8 (T:Txt K mg) {H:Hp} {m:Int} {c:Bool} {a:Addr} {ps:List Addr} {rs:List Road} {Q:Addr->Hp->Prop} (ha:SqX K c H a (ps.map V.ref)) (ro:RoadsAt H ps rs) (g:Good m rs)
   (k:∀ x t H',H x=none->H t=none->Same H H'->WebAt T.Web H' x m t ps rs->Q x H') :
   ∀ x dx,H x=none->H dx=none->dx≠x->m3 T [.ref x,.int m,.ref a] (upd (upd H dx (.own x)) x (.ins T.Web dx [])) (fun v H2=>v=.non/\Q x H2) E0:=by
 intro x dx hx hdx ne;have hx1:upd H dx (.own x) x=none:=by rw [ao ne.symm];exact hx
 have s0:Same H (upd (upd H dx (.own x)) x (.ins T.Web dx [])):=(Same.new _ hdx).trans (Same.new _ hx1);exact ⟨x,dx,m,c,a,ps,rs,rfl,ah,Same.sqX s0 ha,RoadsAt.same s0 ro,g,fun t H' ht W kp=>⟨rfl,k x t H' hx (s0.free ht) (fun b o e=>kp b o (s0 b o e) (ay e hx)) W⟩⟩
/-- the dict of the tolls of the first roads -/
def RV (H:Hp) (d:Addr) (rs:List Road) (n:Nat):Prop:=∃ kvs,H d=some (.dT kvs)/\(kvs.length<=2*n/\∀ p∈kvs,∃ a b:Int,p.1=[.inl a,.inl b])/\∀ a b:Int,(∀ i x,i<n->rs[i]?=some x->qA x a b->bQ kvs [.inl a,.inl b]=(eF a b x).map V.int)/\((∀ i x,i<n->rs[i]?=some x->¬ qA x a b)->bQ kvs [.inl a,.inl b]=none)
/-- the dict of the tolls of a web -/
structure TollsAt (H:Hp) (d:Addr) (rs:List Road):Prop where
 ex:∃ kvs,H d=some (.dT kvs)/\∀ a b:Int,bQ kvs [.inl a,.inl b]=(aZ rs a b).map V.int
 ks:∃ kvs,H d=some (.dT kvs)/\kvs.length<=2*rs.length/\∀ p∈kvs,∃ a b:Int,p.1=[.inl a,.inl b]
theorem TollsAt.same {H H':Hp} {d:Addr} {rs:List Road} (e:Same H H') (h:TollsAt H d rs):TollsAt H' d rs:=by
 obtain ⟨kvs,h1,h2⟩:=h.ex;obtain ⟨kws,h3,h4⟩:=h.ks;exact ⟨⟨kvs,e _ _ h1,h2⟩,⟨kws,e _ _ h3,h4⟩⟩
def yn (T:Txt K mg):Sp:=fun vs H Q _=>∃ (l:Addr) (ps:List Addr) (m:Int) (rs:List Road),vs=[.ref l]/\H l=some (.lst (ps.map V.ref))/\RoadsAt H ps rs/\Good m rs/\∀ d H',H d=none->Same H H'->TollsAt H' d rs->Q (.ref d) H'
abbrev b7:Stmt:=top 51
theorem hZ:FnScope ["roads","tolls","one","other","there","back"] ["roads"] (aa b7):=FnScope.of (by kernel_rfl)
theorem xL:NmL (aa b7) "roads":=.of (by kernel_rfl)
theorem gI:NmL (aa b7) "tolls":=.of (by kernel_rfl)
theorem lS:NmL (aa b7) "one":=.of (by kernel_rfl)
theorem jV:NmL (aa b7) "other":=.of (by kernel_rfl)
theorem oV:NmL (aa b7) "there":=.of (by kernel_rfl)
theorem qg:NmL (aa b7) "back":=.of (by kernel_rfl)
theorem FT (T:Txt K mg) (hq:aQ (CXe P w)) {f:Addr} {fd:FuncData} (D:Df K mg "_law_tolls" b7 ["roads"] f fd):FnOk P w K mg base (CXe P w) 1 f fd ["roads"] (yn T):=by
 refine D.F.okC hZ (fun vs H Q E h=>?_) (fun cdv A outer s H vs Q E hr h=>?_)
 . obtain ⟨l,ps,m,rs,rfl,_⟩:=h
   rfl
 . obtain ⟨l,ps,m,rs,rfl,hl,ro,g,k⟩:=h;have hu:=sB hr;refine ⟨_,(aj (aw (i:=1) hZ.nd rfl (Or.inl gI.l) HF) (aj (cq PassesOwn.never rfl (eY (pvl 0 xL)) (hV (n:=4) rfl (aF (ax (i:=2) hZ.nd rfl (Or.inl lS.l)) (aF (ax (i:=3) hZ.nd rfl (Or.inl jV.l)) (aF (ax (i:=4) hZ.nd rfl (Or.inl oV.l)) (aF (ax (i:=5) hZ.nd rfl (Or.inl qg.l)) eX))))) (aj (uf hu (pvl 1 gI) (eL (ag (pvl 2 lS) (ag (pvl 3 jV) ak))) (pvl 4 oV) rfl) (ap (uf hu (pvl 1 gI) (eL (ag (pvl 3 jV) (ag (pvl 2 lS) ak))) (pvl 5 qg) rfl)))) (ap (aO (pvl 1 gI))))),?_⟩;rw [show L2.start ["roads","tolls","one","other","there","back"] [V.ref l]=[some (V.ref l),none,none,none,none,none] from rfl];walk_at "rd";intro d hd;have s0:=Same.new (.dT []) hd;have hlen:ps.length=rs.length:=Paired.length ro;have glen:=g.len;have m24:=g.m24;refine ⟨⟨_,SqL.of (s0 _ _ hl)⟩,?_⟩;refine xV (K:=K) (xs:=ps.map V.ref) (fun i σ H2=>Same H H2/\RV H2 d rs i/\∃ v1 v2 v3 v4,σ=[some (V.ref l),some (V.ref d),v1,v2,v3,v4]) ⟨s0,⟨[],ah,⟨by simp,fun p hp=>nomatch hp⟩,fun a b=>⟨fun i x hi=>absurd hi (Nat.not_lt_zero _),fun _=>rfl⟩⟩,_,_,_,_,rfl⟩ (fun i σ H2 _ z=>SqL.of (z.1 _ _ hl)) ?_ ?_
   . rintro i x σ H2 N hN hx ⟨s2,⟨kvs,hk,⟨hkl,hks⟩,hkv⟩,v1,v2,v3,v4,rfl⟩;obtain ⟨q,r,rfl,h1,h2,h3⟩:=ro.get hx;have hil:i<rs.length:=(List.getElem?_eq_some_iff.mp h2).1;have ok:=g.ok r (List.mem_of_getElem? h2);walk_at "rd";refine ⟨_,SqT.of (s2 _ _ h3),rfl,_,_,rfl,_,_,rfl,_,_,rfl,_,_,rfl,rfl,?_⟩;refine ⟨aJ (by simp),fun p1 n1=>⟨_,DPut.t (k:=[.inl r.a,.inl r.b]) (Same.new (.tup [V.int r.a,V.int r.b]) n1 _ _ hk) ah (bG (by omega)),aJ (by simp),fun p2 n2=>?_⟩⟩;have l1:=jp kvs [Sum.inl r.a,Sum.inl r.b] (V.int r.t);have np2:d≠p2:=fun z=>by rw [<- z,ah] at n2;cases n2
     refine ⟨_,DPut.t (k:=[.inl r.b,.inl r.a]) (by rw [ao np2];exact ah) ah (bG (by omega)),hN _ _ ⟨?_,⟨_,ah,?_,?_⟩,_,_,_,_,rfl⟩⟩
     . intro b o hb;have nd:b≠d:=ay hb hd;have b2:=s2 _ _ hb;have nb1:b≠p1:=ay b2 n1;have b3:upd (upd H2 p1 (.tup [V.int r.a,V.int r.b])) d (.dT (cX kvs [Sum.inl r.a,Sum.inl r.b] (V.int r.t))) b=some o:=(by rw [ao nd,ao nb1];exact b2);rw [ao nd,ao (ay b3 n2)];exact b3
     . have l2:=jp (cX kvs [Sum.inl r.a,Sum.inl r.b] (V.int r.t)) [Sum.inl r.b,Sum.inl r.a] (V.int r.u);refine ⟨by omega,fun p hp=>?_⟩;rcases Hm hp with e|⟨q,hq,e⟩
       . exact ⟨_,_,e⟩
       rcases Hm hq with e'|⟨q',hq',e'⟩
       . exact ⟨_,_,e.trans e'⟩
       . obtain ⟨a',b',e2⟩:=hks q' hq';exact ⟨a',b',e.trans (e'.trans e2)⟩
     . intro a' b';have v2:bQ (cX (cX kvs [Sum.inl r.a,Sum.inl r.b] (V.int r.t)) [Sum.inl r.b,Sum.inl r.a] (V.int r.u)) [Sum.inl a',Sum.inl b']=if a'=r.b/\b'=r.a then some (V.int r.u) else if a'=r.a/\b'=r.b then some (V.int r.t) else bQ kvs [Sum.inl a',Sum.inl b']:=by
         rw [qG,qG];simp
       rw [v2];have away:¬ qA r a' b'->(if a'=r.b/\b'=r.a then some (V.int r.u) else if a'=r.a/\b'=r.b then some (V.int r.t) else bQ kvs [Sum.inl a',Sum.inl b'])=bQ kvs [Sum.inl a',Sum.inl b']:=fun z=>by
         rw [if_neg (fun w=>z (.inr ⟨w.1.symm,w.2.symm⟩)),if_neg (fun w=>z (.inl ⟨w.1.symm,w.2.symm⟩))]
       constructor
       . intro j x hj hy jx;by_cases e:j=i
         . subst e;rw [h2] at hy;cases hy;rcases jx with ⟨w1,w2⟩|⟨w1,w2⟩
           . subst w1 w2;rw [if_neg (fun z=>ok.ne z.1),if_pos ⟨rfl,rfl⟩,QF ok.ne]
             rfl
           . subst w1 w2;rw [if_pos ⟨rfl,rfl⟩,QQ ok.ne]
             rfl
         . rw [away fun w=>e (D6 g hy h2 jx w)];exact (hkv a' b').1 j x (by omega) hy jx
       . intro z;rw [away (z i r (by omega) h2)];exact (hkv a' b').2 fun j x hj hx=>z j x (by omega) hx
   . rintro σ H2 ⟨s2,⟨kvs,hk,⟨hkl,hks⟩,hkv⟩,v1,v2,v3,v4,rfl⟩;rw [List.length_map,hlen] at hkv;walk_at "rd";refine k d H2 hd s2 ⟨⟨kvs,hk,fun a b=>?_⟩,⟨kvs,hk,by rw [List.length_map,hlen] at hkl;exact hkl,hks⟩⟩;by_cases z:∃ (i:Nat) (x:Road),rs[i]?=some x/\qA x a b
     . obtain ⟨i,x,hi,j⟩:=z;rw [(hkv a b).1 i x (List.getElem?_eq_some_iff.mp hi).1 hi j,Eh g hi j]
     . rw [(hkv a b).2 fun i x _ hi j=>z ⟨i,x,hi,j⟩,Of]
       . rfl
       . rintro ⟨x,hx,j⟩;obtain ⟨i,hi⟩:=List.getElem?_of_mem hx;exact z ⟨i,x,hi,j⟩
def tT (T:Txt K mg):Sp:=fun vs H Q _=>∃ (a:Addr) (ns:List Int) (k:Int),vs=[.ref a,.int k]/\SqL K H a (ns.map V.int)/\0<=k/\∀ v,Q (.int v) H
abbrev da:Stmt:=top 46
theorem Iy:FnScope ["script","k"] ["script","k"] (aa da):=FnScope.of (by kernel_rfl)
theorem oZ:NmL (aa da) "script":=.of (by kernel_rfl)
theorem wV:NmL (aa da) "k":=.of (by kernel_rfl)
theorem mW:NmG (aa da) "len":=.of (by kernel_rfl)
theorem Il (T:Txt K mg) (hq:aQ (CXe P w)) {f:Addr} {fd:FuncData} (D:Df K mg "_law_cell" da ["script","k"] f fd):FnOk P w K mg base (CXe P w) 1 f fd ["script","k"] (tT T):=by
 refine D.F.okC Iy (fun vs H Q E h=>?_) (fun cdv A outer s H vs Q E hr h=>?_)
 . obtain ⟨a,ns,i,rfl,_⟩:=h
   rfl
 . obtain ⟨a,ns,i,rfl,ha,h0,k⟩:=h;refine ⟨_,(aj (bT (aX y7 (pvl 1 wV) (cz cZ mW.g T.len jI (ag (pvl 0 oZ) ak) (hn:=mW.n) (hdb:=mW.d)) (bc _)) (ap (aO (aH aM (pvl 0 oZ) (pvl 1 wV) (fun _ _=>rfl)))) bp) (ap (aO am))),?_⟩;rw [show L2.start ["script","k"] [V.ref a,V.int i]=[some (V.ref a),some (V.int i)] from rfl];walk_at "rd";refine ⟨_,.inl ha,?_⟩;rw [List.length_map];by_cases c:i<(ns.length:Int)
   . rw [if_pos c];have hi:i.toNat<ns.length:=(by omega);exact ixS ha (cL h0 (v:=.int ns[i.toNat]) (by rw [List.getElem?_map,List.getElem?_eq_getElem hi];rfl)) (k _)
   . rw [if_neg c];exact k 0
def zU (T:Txt K mg):Sp:=fun vs H Q _=>∃ (d:Addr) (rs:List Road) (m r:Int),vs=[.int m,.ref d,.int r]/\TollsAt H d rs/\Good m rs/\(0<=r/\r<m) /\
 ∃ par dep,Rooted m rs r par dep/\∀ lo qs t H',H lo=none->Same H H'->H' lo=some (.lst (qs.map V.ref))->PrsAt H' r par qs (r::t)->Order m r par t->t=(r::t).flatMap (kd m rs r par)->Q (.ref lo) H'
abbrev bC:Stmt:=top 52
theorem ji:FnScope ["many","tolls","r","order","at","place","near"] ["many","tolls","r"] (aa bC):=FnScope.of (by kernel_rfl)
theorem Aw:NmL (aa bC) "many":=.of (by kernel_rfl)
theorem Oy:NmC (aa bC) "tolls":=.of (by kernel_rfl)
theorem EN:NmL (aa bC) "r":=.of (by kernel_rfl)
theorem ft:NmL (aa bC) "order":=.of (by kernel_rfl)
theorem ig:NmL (aa bC) "at":=.of (by kernel_rfl)
theorem zf:NmC (aa bC) "place":=.of (by kernel_rfl)
theorem Aj:NmC (aa bC) "near":=.of (by kernel_rfl)
theorem mt:NmG (aa bC) "len":=.of (by kernel_rfl)
theorem zx:NmG (aa bC) "range":=.of (by kernel_rfl)
theorem Jg (T:Txt K mg) (hq:aQ (CXe P w)) {f:Addr} {fd:FuncData} (D:Df K mg "_law_down" bC ["many","tolls","r"] f fd):FnOk P w K mg base (CXe P w) 1 f fd ["many","tolls","r"] (zU T):=by
 refine D.F.okC ji (fun vs H Q E h=>?_) (fun cdv A outer s H vs Q E hr h=>?_)
 . obtain ⟨d,rs,m,r,rfl,_⟩:=h
   rfl
 . obtain ⟨d,rs,m,r,rfl,ta,g,rr,par,dep,R,k⟩:=h;have hu:=sB hr;have m24:=g.m24;refine ⟨_,(aj (aw (i:=3) ji.nd rfl (Or.inl ft.l) (cg (ag (eL (ag (pvl 2 EN) (ag BT ak))) ak))) (aj (aw (i:=4) ji.nd rfl (Or.inl ig.l) am) (aj (nN PassesOwn.never (aX y7 (pvl 4 ig) (cz cZ mt.g T.len jI (ag (pvl 3 ft) ak) (hn:=mt.n) (hdb:=mt.d)) (bc _)) (aj (lf (aH aM (pvl 3 ft) (pvl 4 ig) (fun _ _=>rfl)) (hV (n:=2) rfl (aF (ax (i:=5) ji.nd rfl (Or.inr zf.l)) (aF (ax (i:=6) ji.nd rfl (Or.inr Aj.l)) eX)))) (aj (bw (gh PySem.F.plainAttrs_list PySem.F.slot_list_extend PySem.F.type_list_extend Ez (pvl 3 ft) (ag (eW rfl (gr (Nc:=["other","place","near","tolls"]) 1 [5,6,1] (by decide +kernel) rfl (by decide +kernel) rfl (by show ∀ (y:Str × NameKind),y∈_->y.2=NameKind.free->(aa bC).names.lookup y.1=some NameKind.cell;decide +kernel) rfl (fun _ h=>dA h) (fun i hi=>match i,hi with|0,_=>⟨"place",5,rfl,rfl,rfl,by decide +kernel⟩|1,_=>⟨"near",6,rfl,rfl,rfl,by decide +kernel⟩|2,_=>⟨"tolls",1,rfl,rfl,rfl,by decide +kernel⟩|i+3,hi=>absurd hi (by show ¬ i+3<3;omega))) (eR zx.g T.range (ag (pvl 0 Aw) ak)) (fun _ _ _ _=>(ax (i:=0) (show (["other","place","near","tolls"]:List Str).Nodup from by decide +kernel) rfl (Or.inl rfl))) (fun _ _ _ _=>(uA (PW.pt (Cu (aX sA (pv 0) (pv 2) (bc _)) (y3 (Bh (TB hu (eL (ag (pv 1) (ag (pv 0) ak))) (pv 3)))))))) (fun _ _ _ _=>(eL (ag (pv 0) (ag (pv 1) ak))))) ak))) (ap (aw (i:=4) ji.nd rfl (Or.inl ig.l) (aq bu (pvl 4 ig) am)))))) (ap (aO (pvl 3 ft)))))),?_⟩;rw [show L2.start ["many","tolls","r","order","at","place","near"] [V.int m,V.ref d,V.int r]=[some (V.int m),some (V.ref d),some (V.int r),none,none,none,none] from rfl];walk_at "rd";refine ⟨aJ (by simp),fun q0 n0=>⟨aJ (by simp),fun lo nlo=>?_⟩⟩;have s1:=Same.new (.tup [V.int r,V.non]) n0;have nl0:=s1.free nlo;have s2:=s1.trans (Same.new (.lst [V.ref q0]) nlo);have nql:q0≠lo:=fun z=>by rw [<- z,ah] at nlo;cases nlo
   have e2:upd (upd H q0 (.tup [V.int r,V.non])) lo (.lst [V.ref q0]) lo=some (.lst [V.ref q0]):=ah;have f2:upd (upd H q0 (.tup [V.int r,V.non])) lo (.lst [V.ref q0]) q0=some (.tup (vPr r par r)):=by
     rw [ao nql,ah];unfold vPr Pb.front;rw [if_pos rfl]
   generalize upd (upd H q0 (.tup [V.int r,V.non])) lo (.lst [V.ref q0])=H2 at s2 e2 f2 ⊢;have lim:∀ {t:List Int} {ws:List Int},AInv m rs r par t ws->(r::t).length<=m.toNat:=fun {t ws} J=>by
     have:=cH (m:=m) (by omega) (List.nodup_cons.mpr ⟨J.nr,J.nd⟩) fun v hv=>by
       rcases List.mem_cons.mp hv with e|e
       . rw [e];exact rr
       . exact J.rng v e
     omega
   refine yX (fun n σ H4=>∃ (t:List Int) (qs:List Addr) (k:Nat) (v5 v6:Option V),n=m.toNat - k/\k<=(r::t).length/\σ=[some (.int m),some (.ref d),some (.int r),some (.ref lo),some (.int (k:Nat)),v5,v6]/\Same H H4/\H4 lo=some (.lst (qs.map V.ref))/\PrsAt H4 r par qs (r::t)/\Bfs m rs r par t k/\t=((r::t).take k).flatMap (kd m rs r par)) m.toNat ⟨[],[q0],0,_,_,rfl,Nat.zero_le _,rfl,s2,e2,.cons f2 .nil,Bfs.start,rfl⟩ ?_;rintro n σ H4 NW hN hN2 ⟨t,qs,kk,v5,v6,rfl,kle,rfl,s4,ho,pa,S,hT⟩;have tl:=lim S.J;have ql:qs.length=(r::t).length:=Paired.length pa;walk_at "rd";refine ⟨_,.inl (SqL.of ho),?_⟩;rw [List.length_map,ql];by_cases c:kk=(r::t).length
   . rw [if_neg (by omega)];exact k lo qs t H4 nl0 s4 ho pa (S.done R (by omega)) (by rw [c,List.take_length] at hT;exact hT)
   . rw [if_pos (by omega)];have klt:kk<(r::t).length:=(by omega);obtain ⟨p,hp⟩:∃ p,(r::t)[kk]?=some p:=⟨_,List.getElem?_eq_getElem klt⟩;have S':=S.step g R rr.1 rr.2 hp;have tl':=lim S'.J;have pr:0<=p/\p<m:=by
       rcases List.mem_cons.mp (List.mem_of_getElem? hp) with e|e
       . rw [e];exact rr
       . exact S.J.rng p e
     refine ⟨NW,fun σ' H' z=>?_,?_⟩
     . obtain ⟨m',lt,t',qs',k',a5,a6,e1,e2,e3⟩:=hN2 _ _ z;exact ⟨m',lt,t',qs',k',e1,e2,a5,a6,e3⟩
     obtain ⟨qx,hqx⟩:∃ qx,qs[kk]?=some qx:=⟨_,List.getElem?_eq_getElem (by omega)⟩;obtain ⟨qp,pv,e1,e2,e3,e4⟩:=pa.get (i:=kk) (x:=.ref qx) (by rw [List.getElem?_map,hqx];rfl);injection e1 with e1
     subst e1;rw [hp] at e3;cases e3;refine ixL ho (De (by rw [List.getElem?_map,hqx];rfl)) ⟨qx,rfl,_,SqT.of e4,rfl,_,_,rfl,_,_,rfl,rfl,?_⟩;refine ⟨tyL ho,by omega,by omega,fun pc npc=>?_⟩;have mk:∀ v,v∈aK m rs (Pb.front r par p) p->(0<=v/\v<m)/\v≠r/\par v=p:=fun v=>(ba g R pr.1 pr.2).mp;have inK:∀ i:Nat,i<m.toNat->(aZ rs p (i:Int)).isSome=true->V.int (i:Int)≠Pb.front r par p->(i:Int)∈aK m rs (Pb.front r par p) p:=fun i hi h1 h2=>by
       rw [<- vU];unfold eO;exact List.mem_filter.mpr ⟨List.mem_filter.mpr ⟨gB.mpr ⟨by omega,by omega⟩,h1⟩,decide_eq_true h2⟩
     have ktl:∀ i:Nat,i<=m.toNat->(eO rs (Pb.front r par p) p i).length<=24:=fun i hi=>by
       unfold eO;refine Nat.le_trans (List.length_filter_le _ _) (Nat.le_trans (List.length_filter_le _ _) ?_);rw [aY];omega
     have fvs:∀ i:Int,rL (.int i) (Pb.front r par p)=true:=fun i=>by
       unfold Pb.front;by_cases z:p=r
       . rw [if_pos z];rfl
       . rw [if_neg z];rfl
     rw [<- vU] at S' tl';have nlp:lo≠pc:=fun z=>by rw [<- z,ho] at npc;cases npc
     refine j8 (fun i zs σ H5=>Same H4 H5/\H5 pc=some (.lst zs)/\(∃ qs':List Addr,zs=qs'.map V.ref/\PrsAt H5 r par qs' (eO rs (Pb.front r par p) p i))/\∃ v,σ=[v,some (.int p),some (Pb.front r par p),some (.ref d)]) ⟨Same.new _ npc,ah,⟨[],rfl,.nil⟩,_,rfl⟩ ?_ ?_
     . rintro i zs σ H5 N hN hi ⟨s5,hc,⟨qs',rfl,pa'⟩,v7,rfl⟩;rw [Int.zero_add];have kl:=ktl i (by omega);have ql':qs'.length=(eO rs (Pb.front r par p) p i).length:=Paired.length pa';walk_at "rd";refine ⟨fvs _,?_⟩;by_cases c1:V.int (i:Int)=Pb.front r par p
       . rw [if_neg (fun z=>z c1)];exact hN _ _ _ ⟨s5,hc,⟨qs',rfl,by rw [Cz (fun _ z=>z c1)];exact pa'⟩,_,rfl⟩
       . rw [if_pos c1];refine ⟨aJ (by simp),fun q nq=>?_⟩;have s6:=Same.new (.tup [V.int p,V.int (i:Int)]) nq;obtain ⟨kvs,hkv,hv⟩:=(ta.same (s4.trans s5)).ex;have hg:=DGet.t (k:=[.inl p,.inl (i:Int)]) (s6 _ _ hkv) ah;rw [hv] at hg;refine ⟨_,hg,?_⟩;by_cases c2:(aZ rs p (i:Int)).isSome=true
         . rw [if_pos (by rw [Option.isSome_map];exact c2)];obtain ⟨_,kr,kp⟩:=mk _ (inK i hi c2 c1);refine ⟨aJ (by simp),fun q' nq'=>?_⟩;have s7:=s6.trans (Same.new (.tup [V.int (i:Int),V.int p]) nq');have hc7:=s7 _ _ hc;have nqo:q'≠pc:=fun z=>by rw [z,s6 _ _ hc] at nq';cases nq'
           refine ⟨hc7,bG (by rw [List.length_map];omega),hN _ _ _ ⟨(s5.trans s7).put npc _,ah,⟨qs'++[q'],by rw [List.map_append];rfl,?_⟩,_,rfl⟩⟩;rw [LH c2 c1];refine PrsAt.snoc ?_ (Paired.imp' (fun a b h=>by rw [ao (dh (s7 _ _ h) hc7 (by intro z;cases z))];exact s7 _ _ h) pa');rw [ao nqo,ah];unfold vPr Pb.front;rw [if_neg kr,kp]
         . rw [if_neg (by rw [Option.isSome_map];exact c2)];exact hN _ _ _ ⟨s5.trans s6,s6 _ _ hc,⟨qs',rfl,by rw [Cz (fun z=>absurd z c2)];exact PrsAt.same s6 pa'⟩,_,rfl⟩
     . rintro zs σ H5 ⟨s5,hc,⟨qs',rfl,pa'⟩,v7,rfl⟩;have ql':qs'.length=(eO rs (Pb.front r par p) p m.toNat).length:=Paired.length pa';have kl:=ktl m.toNat (Nat.le_refl _);have ho5:=s5 _ _ ho;have hT':t++eO rs (Pb.front r par p) p m.toNat=((r::(t++eO rs (Pb.front r par p) p m.toNat)).take (kk+1)).flatMap (kd m rs r par):=by
         rw [<- List.cons_append,List.take_append_of_le_length (by omega),List.take_succ,hp,List.flatMap_append,<- hT,vU];simp
       rw [List.length_cons] at tl klt;refine ⟨lo,pc,_,_,rfl,rfl,ho5,hc,aJ (by rw [List.length_map,List.length_map,ql,List.length_cons];omega),?_⟩;refine hN (m.toNat - (kk+1)) _ _ (by omega) ⟨t++eO rs (Pb.front r par p) p m.toNat,qs++qs',kk+1,_,_,rfl,by rw [List.length_cons,List.length_append];omega,rfl,(s4.trans s5).put nl0 _,by rw [ah,List.map_append],?_,S',hT'⟩;have kp:∀ a b,H5 a=some (.tup (vPr r par b))->upd H5 lo (.lst (qs.map V.ref++qs'.map V.ref)) a=some (.tup (vPr r par b)):=fun a b h=>by rw [ao (dh h ho5 (by intro z;cases z))];exact h
       exact Ks (Paired.imp' kp pa') (Paired.imp' kp (PrsAt.same s5 pa))
theorem Hu {K:PySem.W.Frag} {H:Hp} {m:Int} {rs:List Road} {r:Int} {par:Int->Int} {dep:Int->Nat}:∀ {qv:List Addr} {kss:List (List Int)},Paired (KdV H m rs r par dep) qv kss->∃ ds,DeepAll K H (qv.map V.ref) ds/\ds.length=qv.length/\PyData.depthAll ds<=3
 | _,_,.nil=>⟨[],.nil,rfl,by simp [PyData.depthAll]⟩
 | _,_,.cons ⟨k,post,_,e⟩ h=>by
   obtain ⟨ds,h1,h2,h3⟩:=Hu (K:=K) h;refine ⟨.tuple [.int k,.int (tup rs par k),.bool (hvK m rs r par dep k),.bool (hvK m rs r par dep k && !(post.any (hvK m rs r par dep)))]::ds,.cons (.tup (SqT.of e) (.cons (.int _) (.cons (.int _) (.cons (.bl _) (.cons (.bl _) .nil))))) h1,by rw [List.length_cons,List.length_cons,h2],?_⟩;simp only [PyData.depthAll,PyData.depth];omega
def zK (T:Txt K mg):Sp:=fun vs H Q _=>∃ (d:Addr) (m:Int) (rs:List Road) (r:Int) (par:Int->Int) (dep:Int->Nat) (kvs:List (Key × V)),vs=[.ref d,.int r]/\Good m rs/\Rooted m rs r par dep/\(0<=r/\r<m)/\H d=some (.dK kvs)/\(∀ v,0<=v->v<m->yV H m rs r par dep kvs v)/\∀ H',Same H H'->Q (.int (enN m rs r par dep (hvK m rs r par dep) r)) H'
abbrev cJ:Stmt:=top 58
theorem kL:FnScope ["shape","r","ends","left","place"] ["shape","r"] (aa cJ):=FnScope.of (by kernel_rfl)
theorem p8:NmL (aa cJ) "shape":=.of (by kernel_rfl)
theorem Fc:NmL (aa cJ) "r":=.of (by kernel_rfl)
theorem iR:NmL (aa cJ) "ends":=.of (by kernel_rfl)
theorem iK:NmL (aa cJ) "left":=.of (by kernel_rfl)
theorem kF:NmL (aa cJ) "place":=.of (by kernel_rfl)
theorem Ju (T:Txt K mg) (hq:aQ (CXe P w)) {f:Addr} {fd:FuncData} (D:Df K mg "_law_ends" cJ ["shape","r"] f fd):FnOk P w K mg base (CXe P w) 1 f fd ["shape","r"] (zK T):=by
 refine D.F.okC kL (fun vs H Q E h=>?_) (fun cdv A outer s H vs Q E hr h=>?_)
 . obtain ⟨d,m,rs,r,par,dep,kvs,rfl,_⟩:=h
   rfl
 . obtain ⟨d,m,rs,r,par,dep,kvs,rfl,g,R,rr,hd,hsh,k⟩:=h;have hu:=sB hr;have hv:=hr.units;have m24:=g.m24;refine ⟨_,(aj (aw (i:=2) kL.nd rfl (Or.inl iR.l) am) (aj (aw (i:=3) kL.nd rfl (Or.inl iK.l) (cg (ag (pvl 1 Fc) ak))) (aj (nN PassesOwn.never (aX (Ui hv) (pvl 3 iK) (cg ak) (bc _)) (aj (aw (i:=4) kL.nd rfl (Or.inl kF.l) (B5 PySem.F.plainAttrs_list PySem.F.slot_list_pop PySem.F.type_list_pop CB (pvl 3 iK))) (aj (bT (aX (Us hv) (oh hu (pvl 0 p8) (pvl 4 kF) (fun _ _=>rfl)) (cg ak) (bc _)) (ap (aw (i:=2) kL.nd rfl (Or.inl iR.l) (aq bu (pvl 2 iR) am))) bp) (ap (bw (gh PySem.F.plainAttrs_list PySem.F.slot_list_extend PySem.F.type_list_extend Ez (pvl 3 iK) (ag (eW rfl (wp (Nc:=["one"]) 1 (by decide +kernel) (by decide +kernel) rfl (by decide +kernel) rfl) (eY (oh hu (pvl 0 p8) (pvl 4 kF) (fun _ _=>rfl))) (fun _ _ _ _=>(ax (i:=0) (show (["one"]:List Str).Nodup from by decide +kernel) rfl (Or.inl rfl))) (fun _ _ _ _=>(uA (No K rfl (aH (CU K rfl) (pv 0) am (fun _ _=>rfl)) (fun _=>rfl)))) (fun _ _ _ _=>(aH (CU K rfl) (pv 0) am (fun _ _=>rfl)))) ak))))))) (ap (aO (pvl 2 iR)))))),?_⟩;rw [show L2.start ["shape","r","ends","left","place"] [V.ref d,V.int r]=[some (V.ref d),some (V.int r),none,none,none] from rfl];refine bD fun N0 h0=>?_;walk_at "rd";refine h0 _ _ (bD fun N1 h1=>?_);walk_at "rd";refine ⟨aJ (by simp),fun ll nl=>h1 _ _ (bD fun N2 h2=>?_)⟩;have s1:=Same.new (HO.lst [V.int r]) nl;have e1:upd H ll (HO.lst [V.int r]) ll=some (.lst ([r].map V.int)):=ah;generalize upd H ll (HO.lst [V.int r])=H1 at s1 e1 ⊢;walk_at "rd";have e00:0+(([r]:List Int).map (enN m rs r par dep (hvK m rs r par dep))).sum=enN m rs r par dep (hvK m rs r par dep) r:=by simp
   have d24:=rH g R rr.1 rr.2;refine Db (fun n σ H'=>(Same H H'/\n<=24)/\∃ (ws:List Int) (e:Nat) (v4:Option V),n=(ws.map fun u=>dgr m rs r par dep u+1).sum/\H' ll=some (.lst (ws.map V.int))/\(∀ w∈ws,0<=w/\w<m)/\e+(ws.map (enN m rs r par dep (hvK m rs r par dep))).sum=enN m rs r par dep (hvK m rs r par dep) r/\σ=[some (V.ref d),some (V.int r),some (V.int (e:Int)),some (V.ref ll),v4]) (([r]:List Int).map fun u=>dgr m rs r par dep u+1).sum ⟨⟨s1,by simp;omega⟩,[r],0,_,rfl,e1,fun w hw=>by rw [List.mem_singleton.mp hw];exact rr,e00,rfl⟩ ?_;rintro n σ H' NW BB hBB hN hN2 ⟨⟨s',n24⟩,ws,e,v4,rfl,el,wr,es,rfl⟩;refine hBB _ _ _ ?_;walk_at "rd";refine ⟨aJ (by simp),fun pe npe=>?_⟩;have s2:=Same.new (HO.lst []) npe;have e2:upd H' pe (HO.lst []) pe=some (.lst []):=ah;have el2:=s2 _ _ el;have s3:=s'.trans s2;generalize upd H' pe (HO.lst [])=H2 at s3 e2 el2 ⊢;refine ⟨_,_,Nl el2,.lst (SqL.of e2) .nil,LC ws,?_⟩;rcases List.eq_nil_or_concat ws with rfl|⟨ws',q,rfl⟩
   . refine ⟨false,by simp [PyData.eqv,PyData.eqvAll],?_⟩;rw [if_neg (by decide)];refine h2 _ _ ?_;walk_at "rd";rw [List.map_nil,List.sum_nil,Nat.add_zero] at es;rw [es];exact k _ s3
   . rw [List.concat_eq_append] at el2 wr es hN hN2 n24 ⊢;refine ⟨true,by rw [List.map_append];cases ws' <;> simp [PyData.eqv,PyData.eqvAll],?_⟩;rw [if_pos rfl];refine ⟨NW,fun σ' H'' z=>?_,?_⟩
     . obtain ⟨m',lt,z1,ws2,e2',v4',z2,z3⟩:=hN2 _ _ z;exact ⟨m',lt,z1,ws2,z2,z3.1,z3.2.1,e2',z3.2.2.1,v4',z3.2.2.2⟩
     have qr:=wr q (List.mem_append_right _ (.head _));have wr':∀ w∈ws',0<=w/\w<m:=fun w hw=>wr w (List.mem_append_left _ hw);rw [List.map_append,List.sum_append,List.map_cons,List.map_nil,List.sum_cons,List.sum_nil,Nat.add_zero] at es n24;rw [List.map_append,List.map_cons,List.map_nil] at el2;refine ⟨tyL el2,La el2 ?_⟩;have s4:Same H (upd H2 ll (.lst (ws'.map V.int))):=s3.put nl _;have el4:upd H2 ll (.lst (ws'.map V.int)) ll=some (.lst (ws'.map V.int)):=ah;generalize upd H2 ll (.lst (ws'.map V.int))=H4 at s4 el4 ⊢;obtain ⟨lv,qv,hv1,hv2,hv3⟩:=hsh q qr.1 qr.2;have get:∀ {H':Hp},H' d=some (.dK kvs)->DGet H' d (V.int q) (some (V.ref lv)):=fun h=>by
       have:=DGet.k (k:=Sum.inl q) h;rw [hv1] at this;exact this
     have lq:=Paired.length hv3;rw [qD] at lq;refine ⟨_,get (s4 _ _ hd),aJ (by simp),fun p2 np2=>?_⟩;have s5:=Same.new (HO.lst []) np2;have e5:upd H4 p2 (HO.lst []) p2=some (.lst []):=ah;have el5:=s5 _ _ el4;have s6:=s4.trans s5;generalize upd H4 p2 (HO.lst [])=H5 at s6 e5 el5 ⊢;have hv5:Paired (KdV H5 m rs r par dep) qv (sfn (kd m rs r par q)):=Paired.imp' (fun b ks ⟨k0,post,h1,h2⟩=>⟨k0,post,h1,s6 _ _ h2⟩) hv3;obtain ⟨ds,dd1,dd2,dd3⟩:=Hu (K:=K) hv5;refine ⟨_,_,.lst (SqL.of (s6 _ _ hv2)) dd1,.lst (SqL.of e5) .nil,by simp only [PyData.depth];omega,?_⟩;have eqe:PyData.eqv (.list ds) (.list [])=decide (kd m rs r par q=[]):=by
       cases ds with
       | nil =>
         have:kd m rs r par q=[]:=List.length_eq_zero_iff.mp (by rw [<- lq,<- dd2];rfl);rw [decide_eq_true this];simp [PyData.eqv,PyData.eqvAll]
       | cons d0 ds =>
         have:¬ kd m rs r par q=[]:=fun z=>by
           rw [z] at lq;rw [lq] at dd2;simp at dd2
         rw [decide_eq_false this];simp [PyData.eqv,PyData.eqvAll]
     rw [eqe];refine ⟨_,rfl,?_⟩;have go:∀ e':Nat,e'+((((kd m rs r par q).filter (hvK m rs r par dep)).map (enN m rs r par dep (hvK m rs r par dep))).sum)=e+enN m rs r par dep (hvK m rs r par dep) q->tyV K "list" (V.ref ll) H5/\∃ x,DGet H5 d (V.int q) (some x)/\∃ a,x=V.ref a/\(∃ xs,SqL K H5 a xs)/\∀ (p:Addr),H5 p=none->rA (Itl K a) p (fun x H1=>rExtend (V.ref ll) [x] H1 fun x H1=>NW [some (V.ref d),some (V.int r),some (V.int (e':Int)),some (V.ref ll),some (V.int q)] H1) (rO 0) (fun σ H Q=>∃ v,σ[0]?=some (some v)/\HK K v (V.int 2) H fun x H'=>∃ k,Kz K x H' k/\Q k H') (tOp (HK K) (AY 0) (tC (V.int 0))) (gH 1 [] [some (V.ref d),some (V.int r),some (V.int (e':Int)),some (V.ref ll),some (V.int q)]) (upd H5 p (HO.lst [])):=by
       intro e' he;refine ⟨tyL el5,_,get (s6 _ _ hd),lv,rfl,⟨_,SqL.of (s6 _ _ hv2)⟩,fun pc npc=>?_⟩;have ncl:pc≠ll:=fun z=>by rw [z,el5] at npc;cases npc
       have k24:(kd m rs r par q).length<=24:=QE g;refine lU (K:=K) (c:=true) (a:=lv) (xs:=qv.map V.ref) (fun i ys σ H6=>Same H5 H6/\H6 pc=some (.lst ys)/\ys=(((kd m rs r par q).take i).filter (hvK m rs r par dep)).map V.int/\∃ z,σ=[z]) ⟨Same.new _ npc,ah,rfl,_,rfl⟩ (fun i ys σ H6 _ ⟨z,_⟩=>SqL.of (z _ _ (s6 _ _ hv2))) ?_ ?_
       . rintro i y ys σ H6 N6 hN6 hy ⟨s7,e7,rfl,z,rfl⟩;obtain ⟨qb,hqb,rfl⟩:=List.getElem?_map_some hy;have il:=(List.getElem?_eq_some_iff.mp hqb).1;obtain ⟨ks',hks'⟩:∃ ks',(sfn (kd m rs r par q))[i]?=some ks':=⟨_,List.getElem?_eq_getElem (by rw [qD];omega)⟩;obtain ⟨qb',hqb',k0,post,h1,h2⟩:=yN hv5 hks';obtain ⟨k1,post1,h3,h4⟩:=FI hks';rw [hqb] at hqb';cases hqb';have:k0=k1:=by
           rw [h1] at h3;exact (List.cons.inj h3).1
         subst this;have et:(kd m rs r par q).take (i+1)=(kd m rs r par q).take i++[k0]:=(by rw [List.take_succ,h4];rfl);walk_at "rd";refine ixT (s7 _ _ h2) rfl ⟨_,rfl,?_⟩;by_cases hh:hvK m rs r par dep k0=true
         . rw [if_pos hh];have fl:(((kd m rs r par q).take i).filter (hvK m rs r par dep)).length<=24:=by
             have h5:=List.length_filter_le (hvK m rs r par dep) ((kd m rs r par q).take i);rw [List.length_take] at h5;omega
           refine ixT (s7 _ _ h2) rfl ⟨e7,bG (by rw [List.length_map];omega),hN6 _ _ _ ⟨fun b o eb=>?_,ah,?_,_,rfl⟩⟩
           . rw [ao (ay eb npc)];exact s7 _ _ eb
           . rw [et,List.filter_append,List.filter_cons,if_pos hh,List.map_append]
             rfl
         . rw [if_neg hh];refine hN6 _ _ _ ⟨s7,e7,?_,_,rfl⟩;rw [et,List.filter_append,List.filter_cons,if_neg hh,List.filter_nil,List.append_nil]
       . rintro ys σ H6 ⟨s7,e7,rfl,z,rfl⟩;rw [List.length_map,lq,List.take_length] at e7;have el7:=s7 _ _ el5;have ln:ws'.length<=24:=by
           have:=G9 (d:=dgr m rs r par dep) ws';omega
         refine ⟨ll,pc,_,_,rfl,rfl,el7,e7,aJ (by rw [List.length_map,List.length_map];have:=List.length_filter_le (hvK m rs r par dep) (kd m rs r par q);omega),?_⟩;have ds:=iP g R qr.1 qr.2;have fs:=vO (f:=fun u=>dgr m rs r par dep u+1) (g:=fun u=>dgr m rs r par dep u+1) (p:=hvK m rs r par dep) (ks:=kd m rs r par q) fun _ _=>Nat.le_refl _;refine hN _ _ _ ?_ ⟨⟨fun b o eb=>?_,?_⟩,ws'++(kd m rs r par q).filter (hvK m rs r par dep),e',_,rfl,?_,fun w hw=>?_,?_,rfl⟩
         . rw [List.map_append,List.sum_append,List.map_append,List.sum_append,List.map_cons,List.map_nil,List.sum_cons,List.sum_nil];omega
         . rw [ao (ay eb nl)];exact s7 _ _ (s6 _ _ eb)
         . rw [List.map_append,List.sum_append];omega
         . rw [ah,List.map_append]
         . rcases List.mem_append.mp hw with hw|hw
           . exact wr' w hw
           . exact ((ba g R qr.1 qr.2).mp (List.mem_filter.mp hw).1).1
         . rw [List.map_append,List.sum_append];omega
     have st:=vq g R (hv:=hvK m rs r par dep) qr.1 qr.2;by_cases ce:kd m rs r par q=[]
     . rw [if_pos (decide_eq_true ce)];rw [if_pos ce] at st;have:=go (e+1) (by rw [st,ce];rfl);rw [Int.natCast_succ] at this;exact this
     . rw [if_neg (by rw [decide_eq_true_eq];exact ce)];rw [if_neg ce] at st;exact go e (by rw [st])
def nJ (T:Txt K mg):Sp:=fun vs H Q _=>∃ (m L:Int) (l:Addr) (ps:List Addr) (rs:List Road),vs=[.int m,.ref l,.int L]/\H l=some (.lst (ps.map V.ref))/\RoadsAt H ps rs/\Good m rs/\1<=L/\L<=900000/\∀ l' ps' H',H l'=none->Same H H'->H' l'=some (.lst (ps'.map V.ref))->RoadsAt H' ps' (rs.map (ltr L))->Good m (rs.map (ltr L))->Q (.ref l') H'
abbrev bh:Stmt:=top 55
theorem fN:FnScope ["many","roads","limit","told","one","other","there","back"] ["many","roads","limit"] (aa bh):=FnScope.of (by kernel_rfl)
theorem MF:NmL (aa bh) "many":=.of (by kernel_rfl)
theorem vT:NmL (aa bh) "roads":=.of (by kernel_rfl)
theorem mD:NmL (aa bh) "limit":=.of (by kernel_rfl)
theorem jt:NmL (aa bh) "told":=.of (by kernel_rfl)
theorem oU:NmL (aa bh) "one":=.of (by kernel_rfl)
theorem mE:NmL (aa bh) "other":=.of (by kernel_rfl)
theorem mT:NmL (aa bh) "there":=.of (by kernel_rfl)
theorem m6:NmL (aa bh) "back":=.of (by kernel_rfl)
theorem CP (T:Txt K mg) (hq:aQ (CXe P w)) {f:Addr} {fd:FuncData} (D:Df K mg "_law_lighter" bh ["many","roads","limit"] f fd):FnOk P w K mg base (CXe P w) 1 f fd ["many","roads","limit"] (nJ T):=by
 refine D.F.okC fN (fun vs H Q E h=>?_) (fun cdv A outer s H vs Q E hr h=>?_)
 . obtain ⟨m,L,l,ps,rs,rfl,_⟩:=h
   rfl
 . obtain ⟨m,L,l,ps,rs,rfl,el,ro,g,l1,l9,k⟩:=h;refine ⟨_,(aj (aw (i:=3) fN.nd rfl (Or.inl jt.l) (cg ak)) (aj (cq PassesOwn.never rfl (eY (pvl 1 vT)) (hV (n:=4) rfl (aF (ax (i:=4) fN.nd rfl (Or.inl oU.l)) (aF (ax (i:=5) fN.nd rfl (Or.inl mE.l)) (aF (ax (i:=6) fN.nd rfl (Or.inl mT.l)) (aF (ax (i:=7) fN.nd rfl (Or.inl m6.l)) eX))))) (ap (bw (gh PySem.F.plainAttrs_list PySem.F.slot_list_append PySem.F.type_list_append cG (pvl 3 jt) (ag (eL (ag (pvl 4 oU) (ag (pvl 5 mE) (ag (aq bu am (aq bo (pvl 6 mT) (pvl 2 mD))) (ag (aq bu am (aq bo (pvl 7 m6) (pvl 2 mD))) ak))))) ak))))) (ap (aO (pvl 3 jt))))),?_⟩;rw [show L2.start ["many","roads","limit","told","one","other","there","back"] [V.int m,V.ref l,V.int L]=[some (V.int m),some (V.ref l),some (V.int L),none,none,none,none,none] from rfl];have hlen:=Paired.length ro;have gl:=g.len;have m24:=g.m24;refine bD fun N0 h0=>?_;walk_at "rd";refine ⟨aJ (by simp),fun l' nl=>h0 _ _ (bD fun N1 h1=>?_)⟩;have s1:=Same.new (HO.lst []) nl;have e1:upd H l' (HO.lst []) l'=some (.lst (([]:List Addr).map V.ref)):=ah;generalize upd H l' (HO.lst [])=H1 at s1 e1 ⊢;walk_at "rd";refine ⟨⟨_,SqL.of (s1 _ _ el)⟩,?_⟩;refine pi (K:=K) (xs:=ps.map V.ref) (fun i σ H2=>Same H H2/\(∃ ps':List Addr,H2 l'=some (.lst (ps'.map V.ref))/\ps'.length=i/\RoadsAt H2 ps' ((rs.map (ltr L)).take i))/\∃ v4 v5 v6 v7,σ=[some (V.int m),some (V.ref l),some (V.int L),some (V.ref l'),v4,v5,v6,v7]) ⟨s1,⟨[],e1,rfl,.nil⟩,_,_,_,_,rfl⟩ (fun i σ H2 _ z=>SqL.of (z.1 _ _ el)) ?_ ?_
   . rintro i x σ H2 N BB hBB hN hi ⟨s2,⟨ps',e2,pl,ra⟩,v4,v5,v6,v7,rfl⟩;obtain ⟨q,r,rfl,h1',h2,h3⟩:=ro.get hi;have il:i<ps.length:=(List.getElem?_eq_some_iff.mp h1').1;have et:(rs.map (ltr L)).take (i+1)=(rs.map (ltr L)).take i++[ltr L r]:=(by rw [List.take_succ,List.getElem?_map,h2];rfl);refine hBB _ _ ?_;walk_at "rd";refine ⟨_,SqT.of (s2 _ _ h3),rfl,_,_,rfl,_,_,rfl,_,_,rfl,_,_,rfl,rfl,?_⟩;walk_at "rd";refine ⟨tyL e2,by omega,by omega,aJ (by simp),fun qt nqt=>?_⟩;have s3:=Same.new (HO.tup [V.int r.a,V.int r.b,V.int (2+r.t % L),V.int (2+r.u % L)]) nqt;have nql:qt≠l':=fun z=>by rw [z,e2] at nqt;cases nqt
     refine pN (s3 _ _ e2) (bG (by rw [List.length_map];omega)) (hN _ _ ⟨?_,⟨ps'++[qt],by rw [ah,List.map_append];rfl,by rw [List.length_append,pl];rfl,?_⟩,_,_,_,_,rfl⟩)
     . exact fun b o e=>by rw [ao (ay e nl)];exact s3 _ _ (s2 _ _ e)
     . rw [et];refine HM (.cons ?_ .nil) (Paired.imp' (fun b x hb=>?_) ra)
       . rw [ao nql];exact ah
       . rw [ao (dh hb e2 (by intro z;cases z))];exact s3 _ _ hb
   . rintro BB σ H2 hBB ⟨s2,⟨ps',e2,pl,ra⟩,v4,v5,v6,v7,rfl⟩;refine hBB _ _ (h1 _ _ ?_);walk_at "rd";rw [List.take_of_length_le (by rw [List.length_map,List.length_map];omega)] at ra;exact k l' ps' H2 nl s2 e2 ra (Po g l1 l9)
theorem Qn (c k:Int) (k0:0<=k) (k1:k<=1000):∃ a b d:Int,(c % 998244353+7919*k+11)*48271 % 2147483647=a/\a*a % 2147483629=b/\(b+104729*k+7)*b % 1000000007=d/\CMul 7919 k/\CMul (c % 998244353+7919*k+11) 48271/\CMul a a/\CMul 104729 k/\CMul (b+104729*k+7) b/\CMul d 16807/\0<=d*16807 % 2147483647 / 8/\d*16807 % 2147483647 / 8<=2147483647:=by
 have em:∀ (x n:Int),0<n->0<=x % n/\x % n<n:=fun x n h=>⟨Int.emod_nonneg x (Int.ne_of_gt h),Int.emod_lt_of_pos x h⟩;refine ⟨_,_,_,rfl,rfl,rfl,?_⟩;have h1:=em ((c % 998244353+7919*k+11)*48271) 2147483647 (by decide);generalize (c % 998244353+7919*k+11)*48271 % 2147483647=a at h1 ⊢;have h2:=em (a*a) 2147483629 (by decide);generalize a*a % 2147483629=b at h2 ⊢;have h3:=em ((b+104729*k+7)*b) 1000000007 (by decide);generalize (b+104729*k+7)*b % 1000000007=d at h3 ⊢;have h4:=em (d*16807) 2147483647 (by decide);exact ⟨.inl ⟨by decide,by decide⟩,.inr ⟨by decide,by decide⟩,.inl ⟨by omega,by omega⟩,.inl ⟨by decide,by decide⟩,.inr ⟨by omega,by omega⟩,.inr ⟨by decide,by decide⟩,by omega,by omega⟩
def yf (T:Txt K mg):Sp:=fun vs H Q _=>∃ (c k:Int),vs=[.int c,.int k]/\0<=k/\k<=1000/\∀ v,0<=v->v<=2147483647->Q (.int v) H
abbrev cW:Stmt:=top 47
theorem mJ:FnScope ["cell","k","m"] ["cell","k"] (aa cW):=FnScope.of (by kernel_rfl)
theorem zw:NmL (aa cW) "cell":=.of (by kernel_rfl)
theorem uP:NmL (aa cW) "k":=.of (by kernel_rfl)
theorem dg:NmL (aa cW) "m":=.of (by kernel_rfl)
theorem FF (T:Txt K mg) (hq:aQ (CXe P w)) {f:Addr} {fd:FuncData} (D:Df K mg "_law_mixed" cW ["cell","k"] f fd):FnOk P w K mg base (CXe P w) 1 f fd ["cell","k"] (yf T):=by
 refine D.F.okC mJ (fun vs H Q E h=>?_) (fun cdv A outer s H vs Q E hr h=>?_)
 . obtain ⟨c,i,rfl,_⟩:=h
   rfl
 . obtain ⟨c,i,rfl,i0,i1,k⟩:=h;obtain ⟨a,b,d,e1,e2,e3,h1,h2,h3,h4,h5,h6,h7,h8⟩:=Qn c i i0 i1;refine ⟨_,(aj (aw (i:=2) mJ.nd rfl (Or.inl dg.l) (aq bo (aq dU (aq bu (aq bu (aq bo (pvl 0 zw) am) (aq dU am (pvl 1 uP))) am) am) am)) (aj (aw (i:=2) mJ.nd rfl (Or.inl dg.l) (aq bo (aq dU (pvl 2 dg) (pvl 2 dg)) am)) (aj (aw (i:=2) mJ.nd rfl (Or.inl dg.l) (aq bo (aq dU (aq bu (aq bu (pvl 2 dg) (aq dU am (pvl 1 uP))) am) (pvl 2 dg)) am)) (ap (aO (aq cP (aq bo (aq dU (pvl 2 dg) am) am) am)))))),?_⟩;rw [show L2.start ["cell","k","m"] [V.int c,V.int i]=[some (V.int c),some (V.int i),none] from rfl];walk_at "rd";rw [e1,e2,e3];exact ⟨by decide,h1,h2,by decide,h3,by decide,h4,h5,by decide,h6,by decide,⟨by decide,by decide⟩,k _ h7 h8⟩
def um (T:Txt K mg):Sp:=fun vs H Q _=>∃ (a:Addr) (ns:List Int) (m:Int),vs=[.ref a,.int m]/\SqL K H a (ns.map V.int)/\0<=m/\m<=800/\∀ (l:Addr) (xs:List Int) (H':Hp),H l=none->Same H H'->H' l=some (.lst (xs.map V.int))->(xs.length:Int)=m->Q (.ref l) H'
abbrev bd:Stmt:=top 48
theorem hW:FnScope ["script","many","rest","numbers","k"] ["script","many"] (aa bd):=FnScope.of (by kernel_rfl)
theorem mf:NmL (aa bd) "script":=.of (by kernel_rfl)
theorem xb:NmL (aa bd) "many":=.of (by kernel_rfl)
theorem cU:NmL (aa bd) "rest":=.of (by kernel_rfl)
theorem eC:NmL (aa bd) "numbers":=.of (by kernel_rfl)
theorem lA:NmL (aa bd) "k":=.of (by kernel_rfl)
theorem dL:NmG (aa bd) "_law_cell":=.of (by kernel_rfl)
theorem vf:NmG (aa bd) "range":=.of (by kernel_rfl)
theorem dv:NmG (aa bd) "_law_mixed":=.of (by kernel_rfl)
theorem Dc (T:Txt K mg) (hq:aQ (CXe P w)) {f:Addr} {fd:FuncData} (D:Df K mg "_law_numbers" bd ["script","many"] f fd) {eI:Addr} {kO:FuncData} (bO:Df K mg "_law_cell" da ["script","k"] eI kO) (G_law_cell:FnOk P w K mg base (CXe P w) 1 eI kO ["script","k"] (tT T)) {gK:Addr} {yx:FuncData} (eu:Df K mg "_law_mixed" cW ["cell","k"] gK yx) (G_law_mixed:FnOk P w K mg base (CXe P w) 1 gK yx ["cell","k"] (yf T)):FnOk P w K mg base (CXe P w) 2 f fd ["script","many"] (um T):=by
 refine D.F.okC hW (fun vs H Q E h=>?_) (fun cdv A outer s H vs Q E hr h=>?_)
 . obtain ⟨a,ns,m,rfl,_⟩:=h
   rfl
 . obtain ⟨a,ns,m,rfl,ha,m0,m1,k⟩:=h;refine ⟨_,(aj (aw (i:=2) hW.nd rfl (Or.inl cU.l) (au G_law_cell (hr.mono (by decide)) dL.g bO.m bO.F.kp bO.b .nil (aL hq) (ag (pvl 0 mf) (ag am ak)) (hdb:=dL.d))) (aj (aw (i:=3) hW.nd rfl (Or.inl eC.l) (cg ak)) (aj (cq PassesOwn.never rfl (eR vf.g T.range (ag (pvl 1 xb) ak)) (ax (i:=4) hW.nd rfl (Or.inl lA.l)) (ap (bT (aX fG (aq bo (au G_law_cell (hr.mono (by decide)) dL.g bO.m bO.F.kp bO.b .nil (aL hq) (ag (pvl 0 mf) (ag am ak)) (hdb:=dL.d)) am) am (bc _)) (aj (bw (gh PySem.F.plainAttrs_list PySem.F.slot_list_append PySem.F.type_list_append cG (pvl 3 eC) (ag (aq bo (pvl 2 cU) (aq F8 am am)) ak))) (ap (aw (i:=2) hW.nd rfl (Or.inl cU.l) (aq O5 (pvl 2 cU) (aq F8 am am))))) (ap (bw (gh PySem.F.plainAttrs_list PySem.F.slot_list_append PySem.F.type_list_append cG (pvl 3 eC) (ag (aq bu (aq dU (au G_law_mixed (hr.mono (by decide)) dv.g eu.m eu.F.kp eu.b .nil (aL hq) (ag (pvl 2 cU) (ag (pvl 4 lA) ak)) (hdb:=dv.d)) am) (au G_law_mixed (hr.mono (by decide)) dv.g eu.m eu.F.kp eu.b .nil (aL hq) (ag (pvl 2 cU) (ag (aq bu (pvl 4 lA) am) ak)) (hdb:=dv.d))) ak))))))) (ap (aO (pvl 3 eC)))))),?_⟩;rw [show L2.start ["script","many","rest","numbers","k"] [V.ref a,V.int m]=[some (V.ref a),some (V.int m),none,none,none] from rfl];walk_at "rd";refine ⟨a,ns,1,rfl,ha,by decide,fun rest=>⟨by decide,fun l nl=>⟨by omega,by omega,?_⟩⟩⟩;refine qw (fun i σ H2=>Same H H2/\∃ (rest:Int) (xs:List Int) (v4:Option V),H2 l=some (.lst (xs.map V.int))/\xs.length=i/\σ=[some (.ref a),some (.int m),some (.int rest),some (.ref l),v4]) ⟨Same.new _ nl,rest,[],_,ah,rfl,rfl⟩ ?_ ?_
   . rintro i σ H2 N hN hi ⟨s2,rest,xs,v4,e2,xl,rfl⟩;rw [Int.zero_add];have sa:=Same.seq s2 ha;have add2:∀ (z rest:Int),N [some (V.ref a),some (V.int m),some (V.int rest),some (V.ref l),some (V.int (i:Int))] (upd H2 l (.lst (xs.map V.int++[V.int z]))):=fun z rest =>
       hN _ _ ⟨s2.put nl _,rest,xs++[z],_,by rw [ah,List.map_append];rfl,by rw [List.length_append,xl];rfl,rfl⟩
     walk_at "rd";refine ⟨a,ns,0,rfl,sa,by decide,fun c=>⟨c,rfl,by decide,?_⟩⟩;have p20:Tq 10 20:=⟨by decide,by decide,by decide⟩;by_cases z:c % 2=0
     . rw [if_pos z];exact ⟨tyL e2,p20,by decide +kernel,pN e2 (bG (by rw [List.length_map];omega)) ⟨p20,⟨by decide +kernel,by decide +kernel⟩,add2 _ _⟩⟩
     . rw [if_neg z];exact ⟨tyL e2,rest,(i:Int),rfl,by omega,by omega,fun x x0 x1=>⟨x,rfl,.inr ⟨by decide,by decide⟩,rest,(i:Int)+100,rfl,by omega,by omega,fun y _ _=>⟨y,rfl,pN e2 (bG (by rw [List.length_map];omega)) (add2 _ _)⟩⟩⟩
   . rintro σ H2 ⟨s2,rest,xs,v4,e2,xl,rfl⟩;walk_at "rd";exact k l xs H2 nl s2 e2 (by omega)
def yk (T:Txt K mg):Sp:=fun vs H Q _=>∃ (dt lo:Addr) (qs:List Addr) (rs:List Road) (t:List Int) (m r:Int) (par:Int->Int) (dep:Int->Nat),vs=[.ref dt,.ref lo]/\TollsAt H dt rs/\Good m rs/\Rooted m rs r par dep/\H lo=some (.lst (qs.map V.ref))/\PrsAt H r par qs (r::t)/\Order m r par t/\t.length+1=m.toNat /\
 ∀ l H',H l=none->Same H H'->H' l=some (.lst ((ic m rs r par dep).map V.int))->Q (.ref l) H'
abbrev bE:Stmt:=top 53
theorem m5:FnScope ["tolls","order","weights","place","near"] ["tolls","order"] (aa bE):=FnScope.of (by kernel_rfl)
theorem xT:NmL (aa bE) "tolls":=.of (by kernel_rfl)
theorem oQ:NmL (aa bE) "order":=.of (by kernel_rfl)
theorem dC:NmL (aa bE) "weights":=.of (by kernel_rfl)
theorem jO:NmL (aa bE) "place":=.of (by kernel_rfl)
theorem fA:NmL (aa bE) "near":=.of (by kernel_rfl)
theorem lJ:NmG (aa bE) "len":=.of (by kernel_rfl)
theorem t7:NmG (aa bE) "reversed":=.of (by kernel_rfl)
theorem lM:NmG (aa bE) "max":=.of (by kernel_rfl)
theorem HN (T:Txt K mg) (hq:aQ (CXe P w)) {f:Addr} {fd:FuncData} (D:Df K mg "_law_least" bE ["tolls","order"] f fd):FnOk P w K mg base (CXe P w) 1 f fd ["tolls","order"] (yk T):=by
 refine D.F.okC m5 (fun vs H Q E h=>?_) (fun cdv A outer s H vs Q E hr h=>?_)
 . obtain ⟨dt,lo,qs,rs,t,m,r,par,dep,rfl,_⟩:=h
   rfl
 . obtain ⟨dt,lo,qs,rs,t,m,r,par,dep,rfl,ta,g,R,ho,pa,O,tl,k⟩:=h;have m1:=g.m1;have m24:=g.m24;have hu:=sB hr;have ql:qs.length=(r::t).length:=Paired.length pa;rw [List.length_cons] at ql;refine ⟨_,(aj (aw (i:=2) m5.nd rfl (Or.inl dC.l) (aq yg (cg (ag am ak)) (cz cZ lJ.g T.len jI (ag (pvl 1 oQ) ak) (hn:=lJ.n) (hdb:=lJ.d)))) (aj (cq PassesOwn.never rfl (rG t7.g T.reversed (pvl 1 oQ)) (hV (n:=2) rfl (aF (ax (i:=3) m5.nd rfl (Or.inl jO.l)) (aF (ax (i:=4) m5.nd rfl (Or.inl fA.l)) eX))) (ap (bT (Bh (SN (pvl 4 fA))) (ap (lf (cz (Ei rfl) lM.g T.max MR (ag (aH aM (pvl 2 dC) (pvl 4 fA) (fun _ _=>rfl)) (ag (aq dU (aH aM (pvl 2 dC) (pvl 3 jO) (fun _ _=>rfl)) (oh hu (pvl 0 xT) (eL (ag (pvl 3 jO) (ag (pvl 4 fA) ak))) (fun _ _=>rfl))) ak)) (hn:=lM.n) (hdb:=lM.d)) (rJ (pvl 2 dC) (pvl 4 fA) lK))) bp))) (ap (aO (pvl 2 dC))))),?_⟩;rw [show L2.start ["tolls","order","weights","place","near"] [V.ref dt,V.ref lo]=[some (V.ref dt),some (V.ref lo),none,none,none] from rfl];walk_at "rd";refine ⟨aJ (by simp),fun l0 n0=>?_⟩;have s0:=Same.new (.lst [V.int 1]) n0;refine ⟨_,.inl (SqL.of (s0 _ _ ho)),?_⟩;rw [List.length_map];refine ⟨l0,_,_,rfl,rfl,ah,by omega,by omega,aJ (by simp;omega),fun l n1=>?_⟩;rw [Mw];rw [show ((qs.length:Int)).toNat=m.toNat by omega];have s1:=s0.trans (Same.new (.lst (List.replicate m.toNat (V.int 1))) n1);have nl:=s0.free n1;have e1:upd (upd H l0 (.lst [V.int 1])) l (.lst (List.replicate m.toNat (V.int 1))) l=some (.lst ((List.replicate m.toNat (1:Int)).map V.int)):=by rw [ah,List.map_replicate]
   have nlo:lo≠l:=fun z=>by rw [<- z,s0 _ _ ho] at n1;cases n1
   generalize upd (upd H l0 (.lst [V.int 1])) l (.lst (List.replicate m.toNat (V.int 1)))=H1 at s1 e1 ⊢;refine ⟨_,SqL.of (s1 _ _ ho),?_⟩;have st:Sofo mx m rs r par dep (fun _=>1) (bor rs par) [] (List.replicate m.toNat (1:Int)):=Sofo.nil (by rw [List.length_replicate];omega) fun v v0 v1=>by
     rw [List.getD,List.getElem?_replicate_of_lt (by omega)];rfl
   refine nF (K:=K) (xs:=qs.map V.ref) (fun i σ H5=>Same H H5/\∃ (cs:List Int) (v6 v7:Option V),H5 l=some (.lst (cs.map V.int))/\Sofo mx m rs r par dep (fun _=>1) (bor rs par) (t.drop (t.length - i)) cs/\σ=[some (V.ref dt),some (V.ref lo),some (V.ref l),v6,v7]) ⟨s1,_,_,_,e1,by rw [Nat.sub_zero,List.drop_length];exact st,rfl⟩ (fun i σ H5 _ z=>SqL.of (z.1 _ _ ho)) ?_ ?_
   . rintro i x σ H5 N hN hx ⟨s5,cs,v6,v7,c5,so,rfl⟩;have il:=(List.getElem?_eq_some_iff.mp hx).1;rw [List.length_reverse,List.length_map,ql] at il;rw [List.getElem?_reverse (by rw [List.length_map,ql];omega),List.length_map,ql] at hx;obtain ⟨q,v,rfl,hq,hv,e5⟩:=pa.get hx;have hv':(r::t).reverse[i]?=some v:=(by rw [List.getElem?_reverse (by rw [List.length_cons];omega),List.length_cons];exact hv);rw [List.reverse_cons] at hv';have cl:=so.len;walk_at "rd";refine ⟨_,SqT.of (s5 _ _ e5),rfl,_,_,rfl,_,_,rfl,rfl,?_⟩;walk_at "rd";by_cases ci:i<t.length
     . rw [List.getElem?_append_left (by rw [List.length_reverse];exact ci)] at hv';obtain ⟨⟨vr,vn⟩,ev,so'⟩:=O.turnF y4 g R so hv';have u:=R.up v vr.1 vr.2 vn;obtain ⟨kd,hd,d0,d1⟩:=mq g R vr.1 vr.2 vn;have fv:Pb.front r par v=V.int (par v):=(by unfold Pb.front;rw [if_neg vn]);rw [fv];have nn:¬ V.int (par v)=V.non:=(by intro z;cases z);rw [if_pos nn];refine ixL c5 (atG u.1.1 (by omega)) (ixL c5 (atG vr.1 (by omega)) ⟨aJ (by simp),fun q' nq'=>?_⟩);have s6:=Same.new (.tup [V.int v,V.int (par v)]) nq';have get:DGet (upd H5 q' (.tup [V.int v,V.int (par v)])) dt (V.ref q') (some (V.int kd)):=by
         obtain ⟨kvs,hkv,hv2⟩:=(ta.same s5).ex;have hg:=DGet.t (k:=[.inl v,.inl (par v)]) (s6 _ _ hkv) ah;rw [hv2,hd] at hg;exact hg
       have c6:=s6 _ _ c5;refine ⟨_,get,_,rfl,_,rfl,.inr ⟨by omega,by omega⟩,_,_,⟨rfl,rfl⟩,DZ c6 u.1.1 (by rw [List.length_map];omega) (hN _ _ ⟨(s5.trans s6).put nl _,rX mx par (bor rs par) cs v,_,_,?_,so',rfl⟩)⟩;rw [ah,<- List.map_set];unfold rX bor mx;rw [hd]
       rfl
     . have ei:i=t.reverse.length:=(by rw [List.length_reverse];omega);rw [ei,List.getElem?_append_right (Nat.le_refl _),Nat.sub_self] at hv';cases hv';have fv:Pb.front r par r=V.non:=(by unfold Pb.front;rw [if_pos rfl]);rw [fv,if_neg (fun z=>z rfl)];refine hN _ _ ⟨s5,cs,_,_,c5,?_,rfl⟩;rw [List.length_reverse] at ei;rw [show t.length - (i+1)=t.length - i by omega];exact so
   . rintro σ H5 ⟨s5,cs,v6,v7,c5,so,rfl⟩;rw [List.length_map,ql,show t.length - (t.length+1)=0 by omega,List.drop_zero] at so;rw [O.doneF y4 g R so] at c5;walk_at "rd";exact k l H5 nl s5 c5
def xZ (T:Txt K mg):Sp:=fun vs H Q _=>∃ (dt lo:Addr) (qs:List Addr) (rs:List Road) (t:List Int) (m r:Int) (par:Int->Int) (dep:Int->Nat),vs=[.ref dt,.ref lo]/\TollsAt H dt rs/\Good m rs/\Rooted m rs r par dep/\(0<=r/\r<m)/\H lo=some (.lst (qs.map V.ref))/\PrsAt H r par qs (r::t)/\Order m r par t/\t.length+1=m.toNat/\t=(r::t).flatMap (kd m rs r par) /\
 ∀ d kvs H',H d=none->Same H H'->H' d=some (.dK kvs)->(∀ v,0<=v->v<m->yV H' m rs r par dep kvs v)->Q (.ref d) H'
abbrev aR:Stmt:=top 56
theorem cY:FnScope ["tolls","order","weights","shape","place","near","kids_v","kid","other","cost","heavy"] ["tolls","order"] (aa aR):=FnScope.of (by kernel_rfl)
theorem ph:NmL (aa aR) "tolls":=.of (by kernel_rfl)
theorem jP:NmL (aa aR) "order":=.of (by kernel_rfl)
theorem iH:NmL (aa aR) "weights":=.of (by kernel_rfl)
theorem jH:NmL (aa aR) "shape":=.of (by kernel_rfl)
theorem eM:NmL (aa aR) "place":=.of (by kernel_rfl)
theorem zg:NmL (aa aR) "near":=.of (by kernel_rfl)
theorem ga:NmL (aa aR) "kids_v":=.of (by kernel_rfl)
theorem iM:NmL (aa aR) "kid":=.of (by kernel_rfl)
theorem oO:NmL (aa aR) "other":=.of (by kernel_rfl)
theorem kz:NmL (aa aR) "cost":=.of (by kernel_rfl)
theorem jK:NmL (aa aR) "heavy":=.of (by kernel_rfl)
theorem kM:NmG (aa aR) "_law_least":=.of (by kernel_rfl)
theorem ud:NmG (aa aR) "reversed":=.of (by kernel_rfl)
theorem lZ:NmG (aa aR) "any":=.of (by kernel_rfl)
theorem Hf (T:Txt K mg) (hq:aQ (CXe P w)) {f:Addr} {fd:FuncData} (D:Df K mg "_law_shape" aR ["tolls","order"] f fd) {gP:Addr} {yo:FuncData} (jm:Df K mg "_law_least" bE ["tolls","order"] gP yo) (G_law_least:FnOk P w K mg base (CXe P w) 1 gP yo ["tolls","order"] (yk T)):FnOk P w K mg base (CXe P w) 2 f fd ["tolls","order"] (xZ T):=by
 refine D.F.okC cY (fun vs H Q E h=>?_) (fun cdv A outer s H vs Q E hr h=>?_)
 . obtain ⟨dt,lo,qs,rs,t,m,r,par,dep,rfl,_⟩:=h
   rfl
 . obtain ⟨dt,lo,qs,rs,t,m,r,par,dep,rfl,ta,g,R,rr,el,pa,O,tl,hT,k⟩:=h;have hu:=sB hr;refine ⟨_,(aj (aw (i:=2) cY.nd rfl (Or.inl iH.l) (au G_law_least (hr.mono (by decide)) kM.g jm.m jm.F.kp jm.b .nil (aL hq) (ag (pvl 0 ph) (ag (pvl 1 jP) ak)) (hdb:=kM.d))) (aj (aw (i:=3) cY.nd rfl (Or.inl jH.l) Rs) (aj (cq PassesOwn.never rfl (eY (pvl 1 jP)) (hV (n:=2) rfl (aF (ax (i:=4) cY.nd rfl (Or.inl eM.l)) (aF (ax (i:=5) cY.nd rfl (Or.inl zg.l)) eX))) (aj (aw (i:=6) cY.nd rfl (Or.inl ga.l) (cg ak)) (aj (cq PassesOwn.never rfl (rG ud.g T.reversed (pvl 1 jP)) (hV (n:=2) rfl (aF (ax (i:=7) cY.nd rfl (Or.inl iM.l)) (aF (ax (i:=8) cY.nd rfl (Or.inl oO.l)) eX))) (ap (bT (aX fG (pvl 8 oO) (pvl 4 eM) (bc _)) (aj (aw (i:=9) cY.nd rfl (Or.inl kz.l) (oh hu (pvl 0 ph) (eL (ag (pvl 7 iM) (ag (pvl 4 eM) ak))) (fun _ _=>rfl))) (aj (aw (i:=10) cY.nd rfl (Or.inl jK.l) (CW fG (aq dU (aH aM (pvl 2 iH) (pvl 7 iM) (fun _ _=>rfl)) (pvl 9 kz)) (aH aM (pvl 2 iH) (pvl 4 eM) (fun _ _=>rfl)) (bc _))) (ap (bw (gh PySem.F.plainAttrs_list PySem.F.slot_list_insert PySem.F.type_list_insert yJ (pvl 6 ga) (ag am (ag (eL (ag (pvl 7 iM) (ag (pvl 9 kz) (ag (pvl 10 jK) (ag (F7 (pvl 10 jK) (Gy (NJ (cz (O6 rfl) lZ.g T.any Th (ag (eW rfl (wp (Nc:=["one"]) 1 (by decide +kernel) (by decide +kernel) rfl (by decide +kernel) rfl) (eY (pvl 6 ga)) (fun _ _ _ _=>(ax (i:=0) (show (["one"]:List Str).Nodup from by decide +kernel) rfl (Or.inl rfl))) (fun _ _ _ _=>g0) (fun _ _ _ _=>(aH (CU K rfl) (pv 0) am (fun _ _=>rfl)))) ak) (hn:=lZ.n) (hdb:=lZ.d))))) ak))))) ak))))))) bp))) (ap (uf hu (pvl 3 jH) (pvl 4 eM) (pvl 6 ga) rfl))))) (ap (aO (pvl 3 jH)))))),?_⟩;rw [show L2.start ["tolls","order","weights","shape","place","near","kids_v","kid","other","cost","heavy"] [V.ref dt,V.ref lo]=[some (V.ref dt),some (V.ref lo),none,none,none,none,none,none,none,none,none] from rfl];refine bD fun N0 h0=>?_;walk_at "rd";refine ⟨dt,lo,qs,rs,t,m,r,par,dep,rfl,ta,g,R,el,pa,O,tl,fun lw H1 nlw s1 ew=>h0 _ _ (bD fun N1 h1=>?_)⟩;walk_at "rd";refine fun d nd=>h1 _ _ (bD fun N2 h2=>?_);have s2:=s1.trans (Same.new (HO.dK []) nd);have nd0:H d=none:=s1.free nd;have ed:upd H1 d (HO.dK []) d=some (.dK []):=ah;have ew2:=Same.new (HO.dK []) nd _ _ ew;have ndw:d≠lw:=fun z=>by rw [z,ew] at nd;cases nd
   generalize upd H1 d (HO.dK [])=H2 at s2 ed ew2 ⊢;clear h0 h1;have ql:qs.length=(r::t).length:=Paired.length pa;have m24:=g.m24;have rl24:(r::t).length<=24:=by rw [List.length_cons];omega
   have xl:(ic m rs r par dep).length=m.toNat:=za;have rng:∀ u∈r::t,0<=u/\u<m:=fun u hu=>by
     rcases List.mem_cons.mp hu with z|z
     . rw [z];exact rr
     . exact O.rng u z
   walk_at "rd";refine ⟨⟨_,SqL.of (s2 _ _ el)⟩,?_⟩;refine pi (K:=K) (xs:=qs.map V.ref) (fun i σ H3=>Same H H3/\H3 lw=some (.lst ((ic m rs r par dep).map V.int))/\(∃ kvs,H3 d=some (.dK kvs)/\kvs.length<=i/\∀ v∈(r::t).take i,yV H3 m rs r par dep kvs v)/\∃ v4 v5 v6 v7 v8 v9 v10,σ=[some (V.ref dt),some (V.ref lo),some (V.ref lw),some (V.ref d),v4,v5,v6,v7,v8,v9,v10]) ⟨s2,ew2,⟨[],ed,Nat.le_refl _,fun v hv=>by cases hv⟩,_,_,_,_,_,_,_,rfl⟩ (fun i σ H3 _ z=>SqL.of (z.1 _ _ el)) ?_ ?_
   . rintro i x σ H3 N BB hBB hN hi ⟨s3,ew3,⟨kvs,ed3,kl3,hsh⟩,v4,v5,v6,v7,v8,v9,v10,rfl⟩;obtain ⟨q,v,rfl,hq,hv,e5⟩:=pa.get hi;have il:=(List.getElem?_eq_some_iff.mp hv).1;have vr:=rng v (List.mem_of_getElem? hv);have vnd:v ∉ (r::t).take i:=fun hu=>by
       obtain ⟨j,hj⟩:=List.getElem?_of_mem hu;have jl:=(List.getElem?_eq_some_iff.mp hj).1;rw [List.length_take] at jl;rw [List.getElem?_take_of_lt (by omega)] at hj;have:=(List.getElem?_inj (by omega) O.nd).mp (hj.trans hv.symm);omega
     refine hBB _ _ ?_;refine RA (SqT.of (s3 _ _ e5)) ?_;refine bD fun M1 k1=>?_;walk_at "rd";refine ⟨aJ (by simp),fun lk nlk=>k1 _ _ (bD fun M2 k2=>?_)⟩;have s4:=Same.new (HO.lst []) nlk;have e4:upd H3 lk (HO.lst []) lk=some (.lst (([]:List Addr).map V.ref)):=ah;generalize upd H3 lk (HO.lst [])=H4 at s4 e4 ⊢;walk_at "rd";refine ⟨_,SqL.of (s4 _ _ (s3 _ _ el)),?_⟩;refine nF (K:=K) (xs:=qs.map V.ref) (fun j σ H5=>Same H3 H5/\(∃ qv:List Addr,H5 lk=some (.lst (qv.map V.ref))/\Paired (KdV H5 m rs r par dep) qv (sfn (kmt r par t v j))/\qv.length<=j)/\∃ v7 v8 v9 v10,σ=[some (V.ref dt),some (V.ref lo),some (V.ref lw),some (V.ref d),some (V.int v),some (Pb.front r par v),some (V.ref lk),v7,v8,v9,v10]) ⟨s4,⟨[],e4,.nil,Nat.le_refl _⟩,_,_,_,_,rfl⟩ (fun j σ H5 _ z=>SqL.of (z.1 _ _ (s3 _ _ el))) ?_ ?_
     . rintro j y σ H5 N5 hN5 hy ⟨s5,⟨qv,e6,pv,qvl⟩,x7,x8,x9,x10,rfl⟩;have jl:=(List.getElem?_eq_some_iff.mp hy).1;rw [List.length_reverse,List.length_map,ql] at jl;rw [List.getElem?_reverse (by rw [List.length_map,ql];omega),List.length_map,ql] at hy;obtain ⟨q2,u,rfl,hq2,hu2,e7⟩:=pa.get hy;have hu':(r::t).reverse[j]?=some u:=(by rw [List.getElem?_reverse jl];exact hu2);have ur:=rng u (List.mem_of_getElem? hu2);have st:=Q2 (par:=par) (v:=v) hu';have s35:=s3.trans s5;refine RA (SqT.of (s35 _ _ e7)) ?_;refine r6 fun NA NB kA kB=>?_;walk_at "rd";have fsc:rL (Pb.front r par u) (V.int v)=true:=by
         unfold Pb.front;split <;> rfl
       refine ⟨fsc,?_⟩;by_cases cu:u≠r/\par u=v
       . have fu:Pb.front r par u=V.int v:=(by unfold Pb.front;rw [if_neg cu.1,cu.2]);rw [if_pos fu];refine kA _ _ ?_;rw [if_pos cu] at st;obtain ⟨kd',hd',d0,d1⟩:=mq g R ur.1 ur.2 cu.1;rw [cu.2] at hd';have etu:tup rs par u=kd':=(by unfold tup;rw [cu.2,hd'];rfl);walk_at "rd";refine ⟨aJ (by simp),fun qk nqk=>?_⟩;have s6:=Same.new (.tup [V.int u,V.int v]) nqk;have get:DGet (upd H5 qk (.tup [V.int u,V.int v])) dt (V.ref qk) (some (V.int kd')):=by
           obtain ⟨kvs2,hkv,hv2⟩:=(ta.same s35).ex;have hg:=DGet.t (k:=[.inl u,.inl v]) (s6 _ _ hkv) ah;rw [hv2,hd'] at hg;exact hg
         refine ⟨_,get,?_⟩;have ew6:=s6 _ _ (s5 _ _ ew3);have e66:=s6 _ _ e6;have pv6:Paired (KdV (upd H5 qk (.tup [V.int u,V.int v])) m rs r par dep) qv (sfn (kmt r par t v j)):=Paired.imp' (fun b ks ⟨k0,post,h1,h2⟩=>⟨k0,post,h1,s6 _ _ h2⟩) pv;have s56:=s5.trans s6;generalize upd H5 qk (.tup [V.int u,V.int v])=H6 at s56 ew6 e66 pv6 ⊢;refine ixL ew6 (atG ur.1 (by omega)) ⟨_,rfl,_,rfl,.inr ⟨by omega,by omega⟩,ixL ew6 (atG vr.1 (by omega)) ⟨rfl,?_⟩⟩;have ehv:decide (V.int ((ic m rs r par dep).getD u.toNat 0*kd')=V.int ((ic m rs r par dep).getD v.toNat 0))=hvK m rs r par dep u:=by
           unfold hvK;rw [show (ic m rs r par dep).getD u.toNat 0=wgt m rs r par dep u from qB ur.1 ur.2,show (ic m rs r par dep).getD v.toNat 0=wgt m rs r par dep v from qB vr.1 vr.2,etu,cu.2];exact decide_eq_decide.mpr ⟨fun z=>by injection z,fun z=>by rw [z]⟩
         have ehv':(V.int ((ic m rs r par dep).getD u.toNat 0*kd')=V.int ((ic m rs r par dep).getD v.toNat 0))↔hvK m rs r par dep u=true:=(by rw [<- ehv,decide_eq_true_eq]);rw [ehv];have ins:∀ (lb:Bool) (H7:Hp),Same H6 H7->lb=(hvK m rs r par dep u && !((kmt r par t v j).any (hvK m rs r par dep)))->[V.int u,V.int kd',V.bl (hvK m rs r par dep u),V.bl lb].length<=sizeLine/\∀ p,H7 p=none->rInsert (V.ref lk) [V.int 0,V.ref p] (upd H7 p (HO.tup [V.int u,V.int kd',V.bl (hvK m rs r par dep u),V.bl lb])) fun x H1=>N5 [some (V.ref dt),some (V.ref lo),some (V.ref lw),some (V.ref d),some (V.int v),some (Pb.front r par v),some (V.ref lk),some (V.int u),some (Pb.front r par u),some (V.int kd'),some (V.bl (hvK m rs r par dep u))] H1:=by
           intro lb H7 s7 elb;refine ⟨aJ (by simp),fun p np=>?_⟩;have s8:=Same.new (HO.tup [V.int u,V.int kd',V.bl (hvK m rs r par dep u),V.bl lb]) np;have e8:=s8 _ _ (s7 _ _ e66);have npl:p≠lk:=fun z=>by rw [z,s7 _ _ e66] at np;cases np
           refine Ro e8 (by decide) (by omega) (bG (by rw [List.length_map];omega)) (hN5 _ _ ⟨fun b o e=>?_,⟨p::qv,by rw [ah];rfl,?_,by rw [List.length_cons];omega⟩,_,_,_,_,rfl⟩)
           . rw [ao (ay e nlk)];exact s8 _ _ (s7 _ _ (s56 _ _ e))
           . rw [st];refine .cons ⟨u,kmt r par t v j,rfl,?_⟩ (Paired.imp' (fun b ks ⟨k0,post,h1,h2⟩=>⟨k0,post,h1,?_⟩) pv6)
             . rw [ao npl,ah,etu,elb]
             . rw [ao (dh h2 e66 (by intro z;cases z))];exact s8 _ _ (s7 _ _ h2)
         refine ⟨tyL e66,?_⟩;by_cases hh:hvK m rs r par dep u=true
         . rw [if_pos (ehv'.mpr hh)];refine ⟨⟨_,SqL.of e66⟩,fun pc npc=>?_⟩;refine lU (K:=K) (c:=true) (a:=lk) (xs:=qv.map V.ref) (fun i2 ys σ H7=>Same H6 H7/\H7 pc=some (.lst ys)/\ys=(((kmt r par t v j).take i2).map (hvK m rs r par dep)).map V.bl/\∃ z,σ=[z]) ⟨Same.new _ npc,ah,rfl,_,rfl⟩ (fun i2 ys σ H7 _ ⟨z,_⟩=>SqL.of (z _ _ e66)) ?_ ?_
           . rintro i2 y ys σ H7 N7 hN7 hy2 ⟨s7,e7',rfl,z,rfl⟩;obtain ⟨qb,hqb,rfl⟩:=List.getElem?_map_some hy2;have il2:=(List.getElem?_eq_some_iff.mp hqb).1;have lps:=Paired.length pv6;obtain ⟨ks',hks'⟩:∃ ks',(sfn (kmt r par t v j))[i2]?=some ks':=⟨_,List.getElem?_eq_getElem (by omega)⟩;obtain ⟨qb',hqb',k0,post,h1,h2⟩:=yN pv6 hks';obtain ⟨k1,post1,h3,h4⟩:=FI hks';rw [hqb] at hqb';cases hqb';have:k0=k1:=by
               rw [h1] at h3;exact (List.cons.inj h3).1
             subst this;have et2:(kmt r par t v j).take (i2+1)=(kmt r par t v j).take i2++[k0]:=(by rw [List.take_succ,h4];rfl);walk_at "rd";refine ixT (s7 _ _ h2) rfl ⟨e7',bG (by rw [List.length_map,List.length_map,List.length_take];omega),hN7 _ _ _ ⟨?_,ah,?_,_,rfl⟩⟩
             . exact fun b o e=>by rw [ao (ay e npc)];exact s7 _ _ e
             . rw [et2,List.map_append,List.map_append]
               rfl
           . rintro ys σ H7 ⟨s7,e7',rfl,z,rfl⟩;have lps:=Paired.length pv6;rw [qD] at lps;rw [List.length_map,lps,List.take_length] at e7';refine ⟨pc,rfl,_,SqL.of e7',?_⟩;refine ins _ H7 s7 ?_;rw [hh,Bool.true_and,List.any_map]
             rfl
         . rw [if_neg (fun z=>hh (ehv'.mp z))];refine ins _ H6 (Same.refl _) ?_;rw [Bool.eq_false_iff.mpr hh]
           rfl
       . have fu:¬ Pb.front r par u=V.int v:=fun z=>by
           unfold Pb.front at z;by_cases c:u=r
           . rw [if_pos c] at z;cases z
           . rw [if_neg c] at z;exact cu ⟨c,by injection z⟩
         rw [if_neg fu];refine kB _ _ ?_;rw [if_neg cu] at st;walk_at "rd";exact hN5 _ _ ⟨s5,⟨qv,e6,by rw [st];exact pv,by omega⟩,_,_,_,_,rfl⟩
     . rintro σ H5 ⟨s5,⟨qv,e6,pv,qvl⟩,x7,x8,x9,x10,rfl⟩;rw [List.length_map,ql,RY g R rr.1 rr.2 O hT vr.1 vr.2] at pv;refine k2 _ _ ?_;walk_at "rd";have ed5:=s5 _ _ ed3;refine ⟨_,DPut.k (k:=Sum.inl v) ed5 (bG (by rw [List.length_cons] at il;omega)),?_⟩;have up:∀ {b:Addr} {x:HO},H5 b=some x->(∀ kk,x≠.dK kk)->upd H5 d (HO.dK (cX kvs (Sum.inl v) (V.ref lk))) b=some x:=fun {b x} e n=>by
         rw [ao (fun z=>by rw [z,ed5] at e;injection e with e;exact n _ e.symm)];exact e
       refine hN _ _ ⟨fun b o e=>?_,up (s5 _ _ ew3) (fun _ z=>by cases z),⟨_,ah,by have:=jp kvs (Sum.inl v:Key) (V.ref lk);omega,fun u hu=>?_⟩,_,_,_,_,_,_,_,rfl⟩
       . rw [ao (ay e nd0)];exact s5 _ _ (s3 _ _ e)
       . rw [List.take_succ,hv] at hu;rcases List.mem_append.mp hu with hu|hu
         . obtain ⟨lv,qv2,h1,h2,h3⟩:=hsh u hu;have nuv:u≠v:=fun z=>vnd (z ▸ hu);refine ⟨lv,qv2,?_,up (s5 _ _ h2) (fun _ z=>by cases z),Paired.imp' (fun b ks ⟨k0,post,e1,e2⟩=>⟨k0,post,e1,up (s5 _ _ e2) (fun _ z=>by cases z)⟩) h3⟩;rw [qG,if_neg (fun z=>nuv (Sum.inl.inj z))];exact h1
         . have:u=v:=(by simpa using hu);subst this;refine ⟨lk,qv,?_,up e6 (fun _ z=>by cases z),Paired.imp' (fun b ks ⟨k0,post,e1,e2⟩=>⟨k0,post,e1,up e2 (fun _ z=>by cases z)⟩) pv⟩;rw [qG,if_pos rfl]
   . rintro BB σ H3 hBB ⟨s3,ew3,⟨kvs,ed3,kl3,hsh⟩,v4,v5,v6,v7,v8,v9,v10,rfl⟩;refine hBB _ _ (h2 _ _ ?_);walk_at "rd";refine k d kvs H3 nd0 s3 ed3 fun v v0 v1=>hsh v ?_;rw [List.take_of_length_le (by rw [List.length_map];omega)];rcases O.all v v0 v1 with z|z
     . rw [z];exact .head _
     . exact .tail _ z
def xD (T:Txt K mg):Sp:=fun vs H Q _=>∃ (a:Addr) (N y:Nat) (f:Nat->Int),vs=[.ref a,.int y]/\H a=some (.lst (((List.range N).map f).map V.int))/\1<=N/\N<=12/\y+12<=2^200/\Pd (N - 1) f/\(∀ i,i<N->(f i).natAbs<BIG)/\Q (.int (f y)) H
abbrev bz:Stmt:=top 59
theorem dq:FnScope ["row","y","told","k","top","bottom","j"] ["row","y"] (aa bz):=FnScope.of (by kernel_rfl)
theorem lP:NmL (aa bz) "row":=.of (by kernel_rfl)
theorem CS:NmL (aa bz) "y":=.of (by kernel_rfl)
theorem gU:NmL (aa bz) "told":=.of (by kernel_rfl)
theorem j2:NmL (aa bz) "k":=.of (by kernel_rfl)
theorem iV:NmL (aa bz) "top":=.of (by kernel_rfl)
theorem gf:NmL (aa bz) "bottom":=.of (by kernel_rfl)
theorem j4:NmL (aa bz) "j":=.of (by kernel_rfl)
theorem oP:NmG (aa bz) "range":=.of (by kernel_rfl)
theorem d4:NmG (aa bz) "len":=.of (by kernel_rfl)
theorem Gq (T:Txt K mg) (hq:aQ (CXe P w)) {f:Addr} {fd:FuncData} (D:Df K mg "_law_value" bz ["row","y"] f fd):FnOk P w K mg base (CXe P w) 1 f fd ["row","y"] (xD T):=by
 refine D.F.okC dq (fun vs H Q E h=>?_) (fun cdv A outer s H vs Q E hr h=>?_)
 . obtain ⟨a,N,y,f,rfl,_⟩:=h
   rfl
 . obtain ⟨a,N,y,f,rfl,ha,n1,n12,yb,hp,fb,q⟩:=h;refine ⟨_,(aj (aw (i:=2) dq.nd rfl (Or.inl gU.l) am) (aj (cq PassesOwn.never rfl (eR oP.g T.range (ag (cz cZ d4.g T.len jI (ag (pvl 0 lP) ak) (hn:=d4.n) (hdb:=d4.d)) ak)) (ax (i:=3) dq.nd rfl (Or.inl j2.l)) (aj (aw (i:=4) dq.nd rfl (Or.inl iV.l) am) (aj (aw (i:=5) dq.nd rfl (Or.inl gf.l) am) (aj (cq PassesOwn.never rfl (eR oP.g T.range (ag (cz cZ d4.g T.len jI (ag (pvl 0 lP) ak) (hn:=d4.n) (hdb:=d4.d)) ak)) (ax (i:=6) dq.nd rfl (Or.inl j4.l)) (ap (bT (aX sA (pvl 6 j4) (pvl 3 j2) (bc _)) (aj (aw (i:=4) dq.nd rfl (Or.inl iV.l) (aq ke (pvl 4 iV) (aq gY (pvl 1 CS) (pvl 6 j4)))) (ap (aw (i:=5) dq.nd rfl (Or.inl gf.l) (aq ke (pvl 5 gf) (aq gY (pvl 3 j2) (pvl 6 j4)))))) bp))) (ap (aw (i:=2) dq.nd rfl (Or.inl gU.l) (aq bu (pvl 2 gU) (aq ke (aH aM (pvl 0 lP) (pvl 3 j2) (fun _ _=>rfl)) (aq NR (pvl 4 iV) (pvl 5 gf)))))))))) (ap (aO (pvl 2 gU))))),?_⟩;rw [show L2.start ["row","y","told","k","top","bottom","j"] [V.ref a,V.int y]=[some (V.ref a),some (V.int y),none,none,none,none,none] from rfl];refine bD fun N0 h0=>?_;walk_at "rd";refine h0 _ _ (bD fun N1 h1=>?_);walk_at "rd";have la:(((List.range N).map f).map V.int).length=N:=by rw [List.length_map,List.length_map,List.length_range]
   refine ⟨_,.inl (SqL.of ha),by rw [la];omega,by rw [la];omega,?_⟩;rw [la,Int.toNat_natCast];refine qu (fun i σ H'=>H'=H/\∃ v3 v4 v5 v6,σ=[some (V.ref a),some (V.int y),some (V.int (smN i fun k=>f k*(tpP k (y:Int) N).fdiv (tpP k (k:Int) N))),v3,v4,v5,v6]) ⟨rfl,_,_,_,_,rfl⟩ ?_ ?_
   . rintro i σ H' M BB hBB hM hi ⟨rfl,v3,v4,v5,v6,rfl⟩;refine hBB _ _ ?_;rw [Int.zero_add];have yb2:((y:Int)).natAbs+12<=2^200:=(by rw [Int.natAbs_natCast];exact yb);have ib2:((i:Int)).natAbs+12<=2^200:=by
       rw [Int.natAbs_natCast];exact Nat.le_trans (show i+12<=2^5 by omega) (Nat.pow_le_pow_right (by decide) (by decide))
     have big:∀ {z:Int} {j:Nat},j<=12->z.natAbs<=2^(200*j)->z.natAbs<BIG:=fun hj hz=>hG hz (by omega);refine bD fun M1 k1=>?_;walk_at "rd";refine k1 _ _ (bD fun M2 k2=>?_);walk_at "rd";refine k2 _ _ (bD fun M3 k3=>?_);walk_at "rd";refine ⟨_,.inl (SqL.of ha),by rw [la];omega,by rw [la];omega,?_⟩;rw [la,Int.toNat_natCast];refine qu (fun j σ H''=>H''=H'/\∃ v6,σ=[some (V.ref a),some (V.int y),some (V.int (smN i fun k=>f k*(tpP k (y:Int) N).fdiv (tpP k (k:Int) N))),some (V.int i),some (V.int (tpP i (y:Int) j)),some (V.int (tpP i (i:Int) j)),v6]) ⟨rfl,_,rfl⟩ ?_ ?_
     . rintro j σ H'' M4 BB4 hBB4 hM4 hj ⟨rfl,v6',rfl⟩;refine hBB4 _ _ ?_;rw [Int.zero_add];have b1:=re (k:=i) yb2 j (by omega);have b2:=re (k:=i) ib2 j (by omega);have e1:∀ z:Int,tpP i z (j+1)=if j=i then tpP i z j else tpP i z j*(z - j):=fun z=>rfl;refine r6 fun NA NB kA kB=>?_;walk_at "rd";by_cases c:j=i
       . rw [if_neg (by omega)];refine kB _ _ ?_;walk_at "rd";refine hM4 _ _ ⟨rfl,some (V.int (j:Int)),?_⟩;rw [e1,e1,if_pos c,if_pos c]
       . rw [if_pos (by omega)];refine kA _ _ ?_;walk_at "rd";have c1:((y:Int) - (j:Int)).natAbs<BIG:=hG (k:=200) (by omega) (by decide);have c2:((i:Int) - (j:Int)).natAbs<BIG:=hG (k:=200) (by omega) (by decide);refine ⟨jY (big (by omega) b1) c1,jY (big (by omega) b2) c2,hM4 _ _ ⟨rfl,some (V.int (j:Int)),?_⟩⟩;rw [e1,e1,if_neg c,if_neg c]
     . rintro BB4 σ H'' hBB4 ⟨rfl,v6',rfl⟩;refine hBB4 _ _ (k3 _ _ ?_);walk_at "rd";have b1:=re (k:=i) yb2 N n12;have b2:=re (k:=i) ib2 N n12;have nz:=HD i N;have eN:tpP i (y:Int) N=tpP i (i:Int) N*wn N i y:=Ob hi y;have b3:((tpP i (y:Int) N).fdiv (tpP i (i:Int) N)).natAbs<BIG:=by
         rw [eN,Int.mul_fdiv_cancel_left _ nz];rw [eN,Int.natAbs_mul] at b1;refine big n12 (Nat.le_trans (Nat.le_mul_of_pos_left _ (Int.natAbs_pos.mpr nz)) b1)
       refine ixL ha (atG (by omega) (by rw [List.length_map,List.length_range];omega)) ⟨⟨nz,Pa (n:=200*N+1) nz (Nat.lt_of_le_of_lt b2 (Nat.pow_lt_pow_right (by decide) (by omega))) (by omega)⟩,_,rfl,?_,hM _ _ ⟨rfl,some (V.int (i:Int)),some (V.int (tpP i (y:Int) N)),some (V.int (tpP i (i:Int) N)),v6',?_⟩⟩
       . rw [Int.toNat_natCast,vg hi];exact jY (fb i hi) b3
       . rw [Int.toNat_natCast,vg hi]
         rfl
   . rintro BB σ H' hBB ⟨rfl,v3,v4,v5,v6,rfl⟩;refine hBB _ _ (h1 _ _ ?_);walk_at "rd";rw [QW n1 hp y];exact q
/-- all that the law's ways need: the shape at d,free and bearing kids as the columns say,low tolls,a flat web -/
structure WyIn (H:Hp) (m:Int) (rs:List Road) (r:Int) (par:Int->Int) (dep:Int->Nat) (fr be:Int->Bool) (d:Addr) (kvs:List (Key × V)):Prop where
 go:Good m rs
 rt:Rooted m rs r par dep
 hd:H d=some (.dK kvs)
 sh:∀ v,0<=v->v<m->yV H m rs r par dep kvs v
 fl:∀ (v:Int) (pre post:List Int) (k:Int),0<=v->v<m->kd m rs r par v=pre++k::post->be k=(hvK m rs r par dep k && !(post.any (hvK m rs r par dep)))/\fr k=(hvK m rs r par dep k && !(be k))
 c4:∀ v,0<=v->v<m->v≠r->tup rs par v<=4
 d6:∀ v,0<=v->v<m->dep v<=6
def fWy (m:Int) (rs:List Road) (r:Int) (par:Int->Int) (dep:Int->Nat) (fr be:Int->Bool) (v:Int) (k l:Nat):Int:=rst fr be (fun x g=>wy m rs r par dep fr be (fun x=>(tup rs par x).toNat) x (hld ((tup rs par x).toNat) g)) ((kd m rs r par v).drop k) l
theorem WyIn.kpt {H H':Hp} {m:Int} {rs:List Road} {r:Int} {par:Int->Int} {dep:Int->Nat} {fr be:Int->Bool} {d dk:Addr} {kvs:List (Key × V)} {kn:List (List Key × V)} (e:Kpt dk H H') (hk:H dk=some (.dT kn)) (h:WyIn H m rs r par dep fr be d kvs):WyIn H' m rs r par dep fr be d kvs :=
 ⟨h.go,h.rt,e _ _ h.hd (dh h.hd hk (by intro z;cases z)),fun v v0 v1=>let ⟨lv,qv,h1,h2,h3⟩:=h.sh v v0 v1;⟨lv,qv,h1,e _ _ h2 (dh h2 hk (by intro z;cases z)),Paired.imp' (fun b ks ⟨k0,post,e1,e2⟩=>⟨k0,post,e1,e _ _ e2 (dh e2 hk (by intro z;cases z))⟩) h3⟩,h.fl,h.c4,h.d6⟩
def yT (T:Txt K mg):Nat->Sp
 | 0=>fun _ _ _ _=>False
 | n+1=>fun vs H Q _=>∃ (d dk:Addr) (m:Int) (rs:List Road) (r:Int) (par:Int->Int) (dep:Int->Nat) (fr be:Int->Bool) (kvs:List (Key × V)) (kn:List (List Key × V)) (v:Int) (k left B:Nat),vs=[.ref d,.int v,.int k,.int left,.ref dk]/\WyIn H m rs r par dep fr be d kvs/\H dk=some (.dT kn)/\KnOk m (B*4^6) (fWy m rs r par dep fr be) kn/\(0<=v/\v<m)/\k<=(kd m rs r par v).length/\(m.toNat*m.toNat*(B*4^6)<=7077888/\B<=12)/\left+1<=B*4^dep v/\(((kd m rs r par v).drop k).map fun x=>dgr m rs r par dep x+1).sum<=n /\
   ∀ kn' H',Kpt dk H H'->H' dk=some (.dT kn')->KnOk m (B*4^6) (fWy m rs r par dep fr be) kn'->Q (.int (fWy m rs r par dep fr be v k left)) H'
def zR (T:Txt K mg):Sp:=yT T 25
abbrev aP:Stmt:=top 57
theorem di:FnScope ["shape","place","k","left","known","kid","cost","heavy","last","told","given","inner"] ["shape","place","k","left","known"] (aa aP):=FnScope.of (by kernel_rfl)
theorem gS:NmL (aa aP) "shape":=.of (by kernel_rfl)
theorem dF:NmL (aa aP) "place":=.of (by kernel_rfl)
theorem gx:NmL (aa aP) "k":=.of (by kernel_rfl)
theorem d8:NmL (aa aP) "left":=.of (by kernel_rfl)
theorem fC:NmL (aa aP) "known":=.of (by kernel_rfl)
theorem rV:NmL (aa aP) "kid":=.of (by kernel_rfl)
theorem lD:NmL (aa aP) "cost":=.of (by kernel_rfl)
theorem p9:NmL (aa aP) "heavy":=.of (by kernel_rfl)
theorem qL:NmL (aa aP) "last":=.of (by kernel_rfl)
theorem ir:NmL (aa aP) "told":=.of (by kernel_rfl)
theorem kt:NmL (aa aP) "given":=.of (by kernel_rfl)
theorem qh:NmL (aa aP) "inner":=.of (by kernel_rfl)
theorem ms:NmG (aa aP) "len":=.of (by kernel_rfl)
theorem ze:NmG (aa aP) "range":=.of (by kernel_rfl)
theorem eV:NmG (aa aP) "int":=.of (by kernel_rfl)
theorem fF:NmG (aa aP) "_law_ways":=.of (by kernel_rfl)
theorem Hx (T:Txt K mg) (hq:aQ (CXe P w)) {f:Addr} {fd:FuncData} (D:Df K mg "_law_ways" aP ["shape","place","k","left","known"] f fd):∀ n:Nat,FnOk P w K mg base (CXe P w) (n+1) f fd ["shape","place","k","left","known"] (yT T n):=by
 intro n;have D_law_ways:=D
 induction n with
 | zero=>exact D.F.okC di (fun vs H Q E h=>h.elim) (fun cdv A outer s H vs Q E hr h=>h.elim)
 | succ n G_law_ways =>
 refine D.F.okC di (fun vs H Q E h=>?_) (fun cdv A outer s H vs Q E hr h=>?_)
 . obtain ⟨d,dk,m,rs,r,par,dep,fr,be,kvs,kn,v,k,left,B,rfl,_⟩:=h
   rfl
 . obtain ⟨d,dk,m,rs,r,par,dep,fr,be,kvs,kn,v,k,left,B,rfl,WI,ek,KO,vr,kl,hB,lb,mu,q⟩:=h;have hu:=sB hr;have g:=WI.go;have m24:=g.m24;refine ⟨_,(aj (bT (aX fG (pvl 2 gx) (cz cZ ms.g T.len jI (ag (oh hu (pvl 0 gS) (pvl 1 dF) (fun _ _=>rfl)) ak) (hn:=ms.n) (hdb:=ms.d)) (bc _)) (ap (aO am)) bp) (aj (bT (Bh (En hu (eL (ag (pvl 1 dF) (ag (pvl 2 gx) (ag (pvl 3 d8) ak)))) (pvl 4 fC))) (aj (lf (aH aM (oh hu (pvl 0 gS) (pvl 1 dF) (fun _ _=>rfl)) (pvl 2 gx) (fun _ _=>rfl)) (hV (n:=4) rfl (aF (ax (i:=5) di.nd rfl (Or.inl rV.l)) (aF (ax (i:=6) di.nd rfl (Or.inl lD.l)) (aF (ax (i:=7) di.nd rfl (Or.inl p9.l)) (aF (ax (i:=8) di.nd rfl (Or.inl qL.l)) eX)))))) (aj (aw (i:=9) di.nd rfl (Or.inl ir.l) am) (aj (cq PassesOwn.never rfl (Ef ze.g T.range (ag (aq dU (pvl 3 d8) (mm Ec eV.g T.int Gv (ag (pvl 8 qL) ak) (hn:=eV.n) (hdb:=eV.d))) (ag (aq bu am (aq dU (pvl 3 d8) (mm Ec eV.g T.int Gv (ag (pvl 7 p9) ak) (hn:=eV.n) (hdb:=eV.d)))) ak))) (ax (i:=10) di.nd rfl (Or.inl kt.l)) (aj (aw (i:=11) di.nd rfl (Or.inl qh.l) (au G_law_ways (hr.mono (by omega)) fF.g D_law_ways.m D_law_ways.F.kp D_law_ways.b .nil (aL hq) (ag (pvl 0 gS) (ag (pvl 5 rV) (ag am (ag (aq gY (aq bu (aq dU (pvl 6 lD) (pvl 10 kt)) (pvl 6 lD)) am) (ag (pvl 4 fC) ak))))) (hdb:=fF.d))) (ap (aw (i:=9) di.nd rfl (Or.inl ir.l) (aq bu (pvl 9 ir) (aq ke (pvl 11 qh) (au G_law_ways (hr.mono (by omega)) fF.g D_law_ways.m D_law_ways.F.kp D_law_ways.b .nil (aL hq) (ag (pvl 0 gS) (ag (pvl 1 dF) (ag (aq bu (pvl 2 gx) am) (ag (aq gY (pvl 3 d8) (pvl 10 kt)) (ag (pvl 4 fC) ak))))) (hdb:=fF.d)))))))) (ap (uf hu (pvl 4 fC) (eL (ag (pvl 1 dF) (ag (pvl 2 gx) (ag (pvl 3 d8) ak)))) (pvl 9 ir) rfl))))) bp) (ap (aO (oh hu (pvl 4 fC) (eL (ag (pvl 1 dF) (ag (pvl 2 gx) (ag (pvl 3 d8) ak)))) (fun _ _=>rfl)))))),?_⟩;rw [show L2.start ["shape","place","k","left","known","kid","cost","heavy","last","told","given","inner"] [V.ref d,V.int v,V.int k,V.int left,V.ref dk]=[some (V.ref d),some (V.int v),some (V.int k),some (V.int left),some (V.ref dk),none,none,none,none,none,none,none] from rfl];obtain ⟨lv,qv,hv1,hv2,hv3⟩:=WI.sh v vr.1 vr.2;have lq:=Paired.length hv3;rw [qD] at lq;have get:∀ {H':Hp},H' d=some (.dK kvs)->DGet H' d (V.int v) (some (V.ref lv)):=fun h=>by
     have:=DGet.k (k:=Sum.inl v) h;rw [hv1] at this;exact this
   refine bD fun N0 h0=>?_;walk_at "rd";refine ⟨_,get WI.hd,lv,rfl,_,.inl (SqL.of hv2),?_⟩;rw [List.length_map,lq];by_cases ck:k=(kd m rs r par v).length
   . rw [if_pos (by omega)];have e:fWy m rs r par dep fr be v k left=1:=by
       unfold fWy;rw [ck,List.drop_length]
       rfl
     have:=q kn H Kpt.refl ek KO;rw [e] at this;exact this
   rw [if_neg (by omega)];refine h0 _ _ (bD fun N1 h1=>?_);clear h0;have out:∀ (kn':List (List Key × V)) (H':Hp) (σr:List (Option V)),Kpt dk H H'->H' dk=some (.dT kn')->KnOk m (B*4^6) (fWy m rs r par dep fr be) kn'->bQ kn' ([.inl v,.inl (k:Int),.inl (left:Int)]:List Key)≠none->(∃ a b c e f g h,σr=[some (V.ref d),some (V.int v),some (V.int k),some (V.int left),some (V.ref dk),a,b,c,e,f,g,h])->N1 σr H':=by
     rintro kn' H' σr kp ek' KO' hn ⟨a1,a2,a3,a4,a5,a6,a7,rfl⟩;refine h1 _ _ ?_;walk_at "rd";refine ⟨aJ (by simp),fun p np=>?_⟩;have s1:=Same.new (HO.tup [V.int v,V.int (k:Int),V.int (left:Int)]) np;have hg:=DGet.t (k:=[.inl v,.inl (k:Int),.inl (left:Int)]) (s1 _ _ ek') ah;cases e:bQ kn' ([.inl v,.inl (k:Int),.inl (left:Int)]:List Key) with
     | none=>exact absurd e hn
     | some x =>
       rw [e] at hg;refine ⟨_,hg,?_⟩;rw [KO'.get e];exact q kn' _ (kp.then s1) (s1 _ _ ek') KO'
   refine r6 fun NA NB kA kB=>?_;walk_at "rd";refine ⟨aJ (by simp),fun p np=>?_⟩;have s1:=Same.new (HO.tup [V.int v,V.int (k:Int),V.int (left:Int)]) np;have hg:=DGet.t (k:=[.inl v,.inl (k:Int),.inl (left:Int)]) (s1 _ _ ek) ah;refine ⟨_,hg,?_⟩;have ek1:=s1 _ _ ek;have k1:Kpt dk H (upd H p (HO.tup [V.int v,V.int (k:Int),V.int (left:Int)])):=Kpt.refl.then s1;generalize upd H p (HO.tup [V.int v,V.int (k:Int),V.int (left:Int)])=H1 at ek1 k1 ⊢;cases e:bQ kn ([.inl v,.inl (k:Int),.inl (left:Int)]:List Key) with
   | some x =>
     rw [if_neg (by simp)];refine kB _ _ ?_;walk_at "rd";exact out kn H1 _ k1 ek1 KO (by rw [e];intro z;cases z) ⟨_,_,_,_,_,_,_,rfl⟩
   | none =>
     rw [if_pos (by simp)];refine kA _ _ (bD fun N2 h2=>?_);have WI1:=WI.kpt k1 ek;have hk:k<(kd m rs r par v).length:=(by omega);obtain ⟨ks',hks'⟩:∃ ks',(sfn (kd m rs r par v))[k]?=some ks':=⟨_,List.getElem?_eq_getElem (by rw [qD];exact hk)⟩;obtain ⟨qb,hqb,x0,post,e1,e2⟩:=yN hv3 hks';have ed:(kd m rs r par v).drop k=x0::post:=(by rw [<- HG hks',e1]);have ed1:(kd m rs r par v).drop (k+1)=post:=(by rw [<- List.drop_drop,ed];rfl);have esp:kd m rs r par v=(kd m rs r par v).take k++x0::post:=(by rw [<- ed,List.take_append_drop]);have xm:x0∈kd m rs r par v:=(by rw [esp];exact List.mem_append_right _ (.head _));have pm:∀ y∈x0::post,y∈kd m rs r par v:=fun y hy=>by rw [esp];exact List.mem_append_right _ hy
     have R:=WI.rt;have xd:=dQ g R vr.1 vr.2 xm;have x4:=WI.c4 x0 xd.1.1.1 xd.1.1.2 xd.1.2.1;have x2:=(qJ g R xd.1.1.1 xd.1.1.2 xd.1.2.1).1;obtain ⟨fb,ff⟩:=WI.fl v _ post x0 vr.1 vr.2 esp;have e2':=k1 _ _ e2 (dh e2 ek (by intro z;cases z));have hv2':=k1 _ _ hv2 (dh hv2 ek (by intro z;cases z));rw [ed,List.map_cons,List.sum_cons] at mu;obtain ⟨n',rfl⟩:∃ n',n=n'+1:=⟨n - 1,by omega⟩;walk_at "rd";refine ⟨_,get WI1.hd,ixL hv2' (De (by rw [List.getElem?_map,hqb];rfl)) ⟨qb,rfl,_,SqT.of e2',rfl,_,_,rfl,_,_,rfl,_,_,rfl,_,_,rfl,rfl,h2 _ _ (bD fun N3 h3=>?_)⟩⟩;walk_at "rd";refine h3 _ _ (bD fun N4 h4=>?_);walk_at "rd";have l62:(left:Int)<2^40:=by
       have h6:=WI.d6 v vr.1 vr.2;have:B*4^dep v<=B*4^6:=Nat.mul_le_mul_left B (Nat.pow_le_pow_right (by decide) h6);have e6:(4:Nat)^6=4096:=rfl;have e7:=hB.2;omega
     have l12:left<B*4^6:=by
       have h6:=WI.d6 v vr.1 vr.2;have:B*4^dep v<=B*4^6:=Nat.mul_le_mul_left B (Nat.pow_le_pow_right (by decide) h6);have e6:(4:Nat)^6=4096:=rfl;have e7:=hB.2;omega
     rw [<- fb];have hlc:∃ lo cnt:Nat,(left:Int)*(if be x0=true then 1 else 0)=lo/\((1:Int)+(left:Int)*(if hvK m rs r par dep x0=true then 1 else 0) - (left:Int)*(if be x0=true then 1 else 0)).toNat=cnt/\lo+cnt<=left+1 /\
         (smN cnt fun j=>wy m rs r par dep fr be (fun x=>(tup rs par x).toNat) x0 (hld ((tup rs par x0).toNat) (lo+j))*fWy m rs r par dep fr be v (k+1) (left - (lo+j)))=fWy m rs r par dep fr be v k left:=by
       have ef:fWy m rs r par dep fr be v k left=rst fr be (fun x g=>wy m rs r par dep fr be (fun x=>(tup rs par x).toNat) x (hld ((tup rs par x).toNat) g)) (x0::post) left:=(by unfold fWy;rw [ed]);have eg:∀ l,fWy m rs r par dep fr be v (k+1) l=rst fr be (fun x g=>wy m rs r par dep fr be (fun x=>(tup rs par x).toNat) x (hld ((tup rs par x).toNat) g)) post l:=fun l=>by unfold fWy;rw [ed1]
       simp only [ef,eg];by_cases hb:be x0=true
       . have hh:hvK m rs r par dep x0=true:=by
           rw [fb,Bool.and_eq_true] at hb;exact hb.1
         have hf:¬ fr x0=true:=(by rw [ff,hh,hb];decide);refine ⟨left,1,by rw [if_pos hb,Int.mul_one],by rw [if_pos hb,if_pos hh];omega,by omega,?_⟩;rw [nY hf hb];show 0+_=_;rw [Int.zero_add];dsimp only;rw [Nat.add_zero,Nat.sub_self]
       . by_cases hh:hvK m rs r par dep x0=true
         . have hf:fr x0=true:=(by rw [ff,hh,Bool.eq_false_iff.mpr hb];rfl);refine ⟨0,left+1,by rw [if_neg hb];simp,by rw [if_neg hb,if_pos hh];omega,by omega,?_⟩;rw [nV hf];exact jF fun i _=>by rw [Nat.zero_add]
         . have hf:¬ fr x0=true:=(by rw [ff,Bool.eq_false_iff.mpr hh];simp);refine ⟨0,1,by rw [if_neg hb];simp,by rw [if_neg hb,if_neg hh];simp,by omega,?_⟩;rw [nI hf hb];show 0+_=_;rw [Int.zero_add];dsimp only;rw [Nat.add_zero,Nat.sub_zero]
     obtain ⟨lo,cnt,hlo,hcnt,hlc,htot⟩:=hlc;have cm:∀ b:Bool,CMul (left:Int) (if b=true then 1 else 0):=fun b=>.inr (by cases b <;> decide);refine .inr ⟨cm _,.inr ⟨cm _,_,_,⟨rfl,rfl⟩,?_,?_⟩⟩
     . rw [hlo];cases hvK m rs r par dep x0 <;> simp <;> omega
     . rw [hcnt,hlo];refine qu (fun i σ H2=>(∃ kn':List (List Key × V),Kpt dk H H2/\H2 dk=some (.dT kn')/\KnOk m (B*4^6) (fWy m rs r par dep fr be) kn')/\∃ v10 v11,σ=[some (V.ref d),some (V.int v),some (V.int k),some (V.int left),some (V.ref dk),some (V.int x0),some (V.int (tup rs par x0)),some (V.bl (hvK m rs r par dep x0)),some (V.bl (be x0)),some (V.int (smN i fun j=>wy m rs r par dep fr be (fun x=>(tup rs par x).toNat) x0 (hld ((tup rs par x0).toNat) (lo+j))*fWy m rs r par dep fr be v (k+1) (left - (lo+j)))),v10,v11]) ⟨⟨kn,k1,ek1,KO⟩,_,_,rfl⟩ ?_ ?_
       . rintro i σ H2 N BB hBB hN hi ⟨⟨kn2,kp2,ek2,KO2⟩,w10,w11,rfl⟩;refine hBB _ _ (bD fun M1 j1=>?_);have gi:lo+i<=left:=(by omega);have c0:((tup rs par x0).toNat:Int)=tup rs par x0:=Int.toNat_of_nonneg (by omega);have eh:tup rs par x0*((lo:Int)+(i:Int))+tup rs par x0 - 1=((hld (tup rs par x0).toNat (lo+i):Nat):Int):=by
           rw [uk (by omega),Int.natCast_add,Int.natCast_mul,c0,Int.natCast_sub (show 1<=(tup rs par x0).toNat by omega),c0,Int.natCast_add];show _=_+(tup rs par x0 - 1);omega
         have dx1:dep x0=dep v+1:=by
           have:=(R.up x0 xd.1.1.1 xd.1.1.2 xd.1.2.1).2.2;rw [xd.1.2.2] at this;omega
         have hb1:hld (tup rs par x0).toNat (lo+i)+1<=B*4^dep x0:=by
           have h1:hld (tup rs par x0).toNat (lo+i)+1=(lo+i+1)*(tup rs par x0).toNat:=by
             unfold hld;have:1<=(lo+i+1)*(tup rs par x0).toNat:=Nat.mul_le_mul (show 1<=lo+i+1 by omega) (show 1<=(tup rs par x0).toNat by omega);omega
           have h2:(lo+i+1)*(tup rs par x0).toNat<=(B*4^dep v)*4:=Nat.mul_le_mul (by omega) (by omega);rw [h1,dx1,Nat.pow_succ,<- Nat.mul_assoc];exact h2
         have ds:=iP g R xd.1.1.1 xd.1.1.2;walk_at "rd";refine ⟨.inl ⟨by omega,by omega⟩,?_⟩;rw [eh];refine ⟨d,dk,m,rs,r,par,dep,fr,be,kvs,kn2,x0,0,_,B,rfl,WI.kpt kp2 ek,ek2,KO2,xd.1.1,Nat.zero_le _,hB,hb1,by rw [List.drop_zero,ds];omega,fun kn3 H3 kp3 ek3 KO3=>j1 _ _ ?_⟩;walk_at "rd";have hcA:∀ u,0<=u->u<m->u≠r->1<=(tup rs par u).toNat/\(tup rs par u).toNat<=1000000:=fun u u0 u1 ur=>by
           have:=qJ g R u0 u1 ur;omega
         have ew:fWy m rs r par dep fr be x0 0=wy m rs r par dep fr be (fun x=>(tup rs par x).toNat) x0:=by
           rw [nS g R xd.1.1.1 xd.1.1.2]
           rfl
         have bt:∀ {D:Nat} {z:Int},D<=23->(0<=z/\z<=2^(D*(20+20*D)))->z.natAbs<BIG:=fun {D z} hD hz=>hG (md hz) (by
           have:D*(20+20*D)<=23*480:=Nat.mul_le_mul hD (by omega);omega)
         have b1:(fWy m rs r par dep fr be x0 0 (hld (tup rs par x0).toNat (lo+i))).natAbs<BIG:=by
           rw [ew];refine bt (D:=dgr m rs r par dep x0) (by have:=rH g R xd.1.1.1 xd.1.1.2;omega) ((Cp g R hcA (m.toNat - dep x0) xd.1.1.1 xd.1.1.2 (Nat.le_refl _)).2 20 _ ?_);have h6:=WI.d6 x0 xd.1.1.1 xd.1.1.2;have:B*4^dep x0<=B*4^6:=Nat.mul_le_mul_left B (Nat.pow_le_pow_right (by decide) h6);have e6:(4:Nat)^6=4096:=rfl;have e7:=hB.2;have e20:(2:Int)^20=1048576:=rfl;rw [e20];omega
         have b2:(fWy m rs r par dep fr be v (k+1) (left - (lo+i))).natAbs<BIG:=by
           have hw:=D1 (fr:=fr) (be:=be) (W:=wy m rs r par dep fr be (fun x=>(tup rs par x).toNat)) (c:=fun x=>(tup rs par x).toNat) (d:=dgr m rs r par dep) (ks:=(kd m rs r par v).drop (k+1)) (fun y hy=>by
             have yd:=dQ g R vr.1 vr.2 (List.mem_of_mem_drop hy);exact Cp g R hcA (m.toNat - dep y) yd.1.1.1 yd.1.1.2 (Nat.le_refl _)) (fun y hy=>by
             have yd:=dQ g R vr.1 vr.2 (List.mem_of_mem_drop hy);exact hcA y yd.1.1.1 yd.1.1.2 yd.1.2.1)
           refine bt ?_ (hw.2 20 (left - (lo+i)) ?_)
           . have h1:=AU (fun x=>dgr m rs r par dep x+1) (kd m rs r par v) (k+1);have h2:=iP g R vr.1 vr.2;have h3:=rH g R vr.1 vr.2;omega
           . have e20:(2:Int)^20=1048576:=rfl;rw [e20];omega
         have ea:((k:Int)+1)=((k+1:Nat):Int):=(by omega);have eb:(left:Int) - ((lo:Int)+(i:Int))=((left - (lo+i):Nat):Int):=(by omega);rw [ea,eb];refine ⟨d,dk,m,rs,r,par,dep,fr,be,kvs,kn3,v,k+1,_,B,rfl,WI.kpt (kp2.trans kp3) ek,ek3,KO3,vr,by omega,hB,by omega,by rw [ed1];omega,fun kn4 H4 kp4 ek4 KO4=>⟨_,rfl,jY b1 b2,hN _ _ ⟨⟨kn4,(kp2.trans kp3).trans kp4,ek4,KO4⟩,some (V.int ((lo:Int)+(i:Int))),some (V.int (fWy m rs r par dep fr be x0 0 (hld (tup rs par x0).toNat (lo+i)))),?_⟩⟩⟩;rw [ew]
         rfl
       . rintro BB σ H2 hBB ⟨⟨kn2,kp2,ek2,KO2⟩,w10,w11,rfl⟩;refine hBB _ _ (h4 _ _ ?_);rw [htot];walk_at "rd";refine ⟨aJ (by simp),fun p np=>?_⟩;have s3:=Same.new (HO.tup [V.int v,V.int (k:Int),V.int (left:Int)]) np;have kd24:(kd m rs r par v).length<=m.toNat:=SZ;have kl2:=Nat.le_trans KO2.len hB.1;have KO3:=KO2.putA (v:=v) (k:=k) (l:=left) vr.1 vr.2 (by omega) l12;refine ⟨_,DPut.t (k:=[.inl v,.inl (k:Int),.inl (left:Int)]) (s3 _ _ ek2) ah (Nat.lt_of_le_of_lt kl2 (by decide)),out _ _ _ ((kp2.then s3).put _) ah KO3 ?_ ⟨_,_,_,_,_,_,_,rfl⟩⟩;rw [qG,if_pos rfl];intro z;cases z
theorem JF (T:Txt K mg) (hq:aQ (CXe P w)) {f:Addr} {fd:FuncData} (D:Df K mg "_law_ways" aP ["shape","place","k","left","known"] f fd):FnOk P w K mg base (CXe P w) 26 f fd ["shape","place","k","left","known"] (zR T):=Hx T hq D  25
def zG (T:Txt K mg):Sp:=fun vs H Q _=>∃ (c:Int),vs=[.int c]/\∀ t,2<=t->t<=1000000->Q (.int t) H
abbrev fH:Stmt:=top 49
theorem Jx:FnScope ["rest"] ["rest"] (aa fH):=FnScope.of (by kernel_rfl)
theorem lW:NmL (aa fH) "rest":=.of (by kernel_rfl)
theorem IH (T:Txt K mg) (hq:aQ (CXe P w)) {f:Addr} {fd:FuncData} (D:Df K mg "_law_toll" fH ["rest"] f fd):FnOk P w K mg base (CXe P w) 1 f fd ["rest"] (zG T):=by
 refine D.F.okC Jx (fun vs H Q E h=>?_) (fun cdv A outer s H vs Q E hr h=>?_)
 . obtain ⟨c,rfl,_⟩:=h
   rfl
 . obtain ⟨c,rfl,k⟩:=h;refine ⟨_,(aj (bT (aX fG (aq bo (pvl 0 lW) am) am (bc _)) (ap (aO (aq bu am (aq bo (aq cP (pvl 0 lW) am) am)))) bp) (ap (aO (aq bu am (aq bo (aq cP (pvl 0 lW) am) am))))),?_⟩;rw [show L2.start ["rest"] [V.int c]=[some (V.int c)] from rfl];walk_at "rd";have a1:=Int.emod_nonneg (c / 8) (show (999999:Int)≠0 by decide);have a2:=Int.emod_lt_of_pos (c / 8) (show (0:Int)<999999 by decide);have a3:=Int.emod_nonneg (c / 8) (show (3:Int)≠0 by decide);have a4:=Int.emod_lt_of_pos (c / 8) (show (0:Int)<3 by decide);refine ⟨by decide,?_⟩;by_cases z:c % 8=0
   . rw [if_pos z];exact ⟨⟨by decide,by decide⟩,by decide,k _ (by omega) (by omega)⟩
   . rw [if_neg z];exact ⟨⟨by decide,by decide⟩,by decide,k _ (by omega) (by omega)⟩
theorem PR {c:Prop} [Decidable c] {A B:Prop} {P:Int->Prop} (m1 m2:Int) (hB:P m2->B) (hA:P m1->A) (h:∀ m,((c/\m=m1)\/(¬ c/\m=m2))->P m):if c then A else B:=by
 by_cases z:c
 . rw [if_pos z];exact hA (h _ (.inl ⟨z,rfl⟩))
 . rw [if_neg z];exact hB (h _ (.inr ⟨z,rfl⟩))
def BK (T:Txt K mg):Sp:=fun vs H Q _=>∃ (a:Addr) (ns:List Int),vs=[.ref a]/\H a=some (.lst (ns.map V.int))/\25<=ns.length/\ns.length<=1000 /\
 ∀ (t l:Addr) (m:Int) (ps:List Addr) (rs:List Road) (H':Hp),H t=none->H l=none->Same H H'->H' t=some (.tup [.int m,.ref l])->H' l=some (.lst (ps.map V.ref))->RoadsAt H' ps rs->Good m rs->((ns.getD 0 0 / 7 % 10=9/\m=8+ns.getD 0 0 / 70 % 17)\/(¬ ns.getD 0 0 / 7 % 10=9/\m=1+ns.getD 0 0 % 7))->(ns.getD 0 0 / 1190 % 4=1->∃ z,∀ x∈rs,x.a=z\/x.b=z)->Q (.ref t) H'
abbrev br:Stmt:=top 50
theorem bP:FnScope ["numbers","head","many","names","k","roads","rest","near","there","back","road"] ["numbers"] (aa br):=FnScope.of (by kernel_rfl)
theorem jL:NmL (aa br) "numbers":=.of (by kernel_rfl)
theorem eZ:NmL (aa br) "head":=.of (by kernel_rfl)
theorem gD:NmL (aa br) "many":=.of (by kernel_rfl)
theorem ee:NmL (aa br) "names":=.of (by kernel_rfl)
theorem bX:NmL (aa br) "k":=.of (by kernel_rfl)
theorem iB:NmL (aa br) "roads":=.of (by kernel_rfl)
theorem bL:NmL (aa br) "rest":=.of (by kernel_rfl)
theorem mY:NmL (aa br) "near":=.of (by kernel_rfl)
theorem iu:NmL (aa br) "there":=.of (by kernel_rfl)
theorem jD:NmL (aa br) "back":=.of (by kernel_rfl)
theorem mz:NmL (aa br) "road":=.of (by kernel_rfl)
theorem rB:NmG (aa br) "range":=.of (by kernel_rfl)
theorem gc:NmG (aa br) "_law_toll":=.of (by kernel_rfl)
theorem nZ:NmG (aa br) "len":=.of (by kernel_rfl)
theorem LB (T:Txt K mg) (hq:aQ (CXe P w)) {f:Addr} {fd:FuncData} (D:Df K mg "_law_web" br ["numbers"] f fd) {iT:Addr} {Ag:FuncData} (fE:Df K mg "_law_toll" fH ["rest"] iT Ag) (G_law_toll:FnOk P w K mg base (CXe P w) 1 iT Ag ["rest"] (zG T)):FnOk P w K mg base (CXe P w) 2 f fd ["numbers"] (BK T):=by
 refine D.F.okC bP (fun vs H Q E h=>?_) (fun cdv A outer s H vs Q E hr h=>?_)
 . obtain ⟨a,ns,rfl,_⟩:=h
   rfl
 . obtain ⟨a,ns,rfl,ha,n25,n1,k⟩:=h;refine ⟨_,(aj (aw (i:=1) bP.nd rfl (Or.inl eZ.l) (aH aM (pvl 0 jL) am (fun _ _=>rfl))) (aj (aw (i:=2) bP.nd rfl (Or.inl gD.l) (aq bu am (aq bo (pvl 1 eZ) am))) (aj (bT (aX fG (aq bo (aq cP (pvl 1 eZ) am) am) am (bc _)) (ap (aw (i:=2) bP.nd rfl (Or.inl gD.l) (aq bu am (aq bo (aq cP (pvl 1 eZ) am) am)))) bp) (aj (aw (i:=3) bP.nd rfl (Or.inl ee.l) (cg ak)) (aj (cq PassesOwn.never rfl (eR rB.g T.range (ag (pvl 2 gD) ak)) (ax (i:=4) bP.nd rfl (Or.inl bX.l)) (ap (bw (gh PySem.F.plainAttrs_list PySem.F.slot_list_insert PySem.F.type_list_insert yJ (pvl 3 ee) (ag (aq bo (aH aM (pvl 0 jL) (aq bu (pvl 4 bX) am) (fun _ _=>rfl)) (aq bu (pvl 4 bX) am)) (ag (pvl 4 bX) ak)))))) (aj (aw (i:=5) bP.nd rfl (Or.inl iB.l) (cg ak)) (aj (cq PassesOwn.never rfl (Ef rB.g T.range (ag am (ag (pvl 2 gD) ak))) (ax (i:=4) bP.nd rfl (Or.inl bX.l)) (aj (aw (i:=6) bP.nd rfl (Or.inl bL.l) (aq cP (aH aM (pvl 0 jL) (aq bu (pvl 4 bX) am) (fun _ _=>rfl)) (aq bu (pvl 4 bX) am))) (aj (aw (i:=7) bP.nd rfl (Or.inl mY.l) (aH aM (cg (ag (aq gY (pvl 4 bX) am) (ag am (ag (aq bo (pvl 6 bL) (pvl 4 bX)) (ag (aq bo (pvl 6 bL) (pvl 4 bX)) ak))))) (aq bo (aq cP (pvl 1 eZ) am) am) (fun _ _=>rfl))) (aj (aw (i:=6) bP.nd rfl (Or.inl bL.l) (aq cP (pvl 6 bL) (pvl 4 bX))) (aj (aw (i:=8) bP.nd rfl (Or.inl iu.l) (au G_law_toll (hr.mono (by decide)) gc.g fE.m fE.F.kp fE.b .nil (aL hq) (ag (pvl 6 bL) ak) (hdb:=gc.d))) (aj (aw (i:=9) bP.nd rfl (Or.inl jD.l) (au G_law_toll (hr.mono (by decide)) gc.g fE.m fE.F.kp fE.b .nil (aL hq) (ag (aq cP (pvl 6 bL) am) ak) (hdb:=gc.d))) (aj (bT (aX fG (aq bo (aq cP (pvl 1 eZ) am) am) am (bc _)) (ap (aw (i:=9) bP.nd rfl (Or.inl jD.l) (pvl 8 iu))) bp) (aj (aw (i:=6) bP.nd rfl (Or.inl bL.l) (aq cP (aq cP (pvl 6 bL) am) am)) (aj (aw (i:=10) bP.nd rfl (Or.inl mz.l) (eL (ag (aH aM (pvl 3 ee) (pvl 7 mY) (fun _ _=>rfl)) (ag (aH aM (pvl 3 ee) (pvl 4 bX) (fun _ _=>rfl)) (ag (pvl 8 iu) (ag (pvl 9 jD) ak)))))) (aj (bT (aX fG (aq bo (pvl 6 bL) am) am (bc _)) (ap (aw (i:=10) bP.nd rfl (Or.inl mz.l) (eL (ag (aH aM (pvl 3 ee) (pvl 4 bX) (fun _ _=>rfl)) (ag (aH aM (pvl 3 ee) (pvl 7 mY) (fun _ _=>rfl)) (ag (pvl 9 jD) (ag (pvl 8 iu) ak))))))) bp) (ap (bw (gh PySem.F.plainAttrs_list PySem.F.slot_list_insert PySem.F.type_list_insert yJ (pvl 5 iB) (ag (aq bo (aq cP (pvl 6 bL) am) (aq bu (cz cZ nZ.g T.len jI (ag (pvl 5 iB) ak) (hn:=nZ.n) (hdb:=nZ.d)) am)) (ag (pvl 10 mz) ak))))))))))))))) (ap (aO (eL (ag (pvl 2 gD) (ag (pvl 5 iB) ak)))))))))))),?_⟩;rw [show L2.start ["numbers","head","many","names","k","roads","rest","near","there","back","road"] [V.ref a]=[some (V.ref a),none,none,none,none,none,none,none,none,none,none] from rfl];have em:∀ (x n:Int),0<n->0<=x % n/\x % n<n:=fun x n h=>⟨Int.emod_nonneg x (Int.ne_of_gt h),Int.emod_lt_of_pos x h⟩;walk_at "rd";refine ixL ha (atG (by decide) (by omega)) ?_;change ∀ (t l:Addr) (m:Int) (ps:List Addr) (rs:List Road) (H':Hp),H t=none->H l=none->Same H H'->H' t=some (.tup [.int m,.ref l])->H' l=some (.lst (ps.map V.ref))->RoadsAt H' ps rs->Good m rs->((ns.getD (0:Int).toNat 0 / 7 % 10=9/\m=8+ns.getD (0:Int).toNat 0 / 70 % 17)\/(¬ ns.getD (0:Int).toNat 0 / 7 % 10=9/\m=1+ns.getD (0:Int).toNat 0 % 7))->(ns.getD (0:Int).toNat 0 / 1190 % 4=1->∃ z,∀ x∈rs,x.a=z\/x.b=z)->Q (.ref t) H' at k;generalize ns.getD (0:Int).toNat 0=c at k ⊢;refine ⟨_,rfl,by decide,_,rfl,⟨by decide,by decide⟩,by decide,?_⟩;have h1:=em c 7 (by decide);have h2:=em (c / 70) 17 (by decide);have h3:=em (c / 1190) 4 (by decide);apply PR (8+c / 70 % 17) (1+c % 7)
   . generalize 1+c % 7=m;intro h;exact h
   . exact fun h=>⟨_,rfl,⟨by decide,by decide⟩,by decide,h⟩
   intro m hm;have m1:1<=m:=by omega
   have m24:m<=24:=by omega
   refine ⟨by decide,fun la nla=>⟨by omega,by omega,?_⟩⟩;refine qw (fun i σ H2=>Same H H2/\(∃ row,H2 la=some (.lst (row.map V.int))/\Labels i row)/\∃ v,σ=[some (V.ref a),some (V.int c),some (V.int m),some (V.ref la),v,none,none,none,none,none,none]) ⟨Same.new _ nla,⟨[],ah,.nil⟩,_,rfl⟩ ?_ ?_
   . rintro i σ H2 N hN hi ⟨s2,⟨row,e2,L⟩,v,rfl⟩;rw [Int.zero_add];have ll:=L.len;walk_at "rd";refine ⟨tyL e2,ixL (s2 _ _ ha) (atG (by omega) (by omega)) ⟨_,rfl,by omega,?_⟩⟩;have q:=em (ns.getD ((i:Int)+1).toNat 0) ((i:Int)+1) (by omega);generalize ns.getD ((i:Int)+1).toNat 0 % ((i:Int)+1)=w at q ⊢;refine Ro e2 q.1 (by rw [List.length_map];omega) (bG (by rw [List.length_map];omega)) ?_;refine hN _ _ ⟨s2.put nla _,⟨_,?_,L.put w.toNat (by omega)⟩,_,rfl⟩;rw [ah,List.map_append,List.map_cons,List.map_take,List.map_drop]
   . rintro σ H2 ⟨s2,⟨ls,e2,L⟩,v,rfl⟩;walk_at "rd";have L':Labels m.toNat ls:=L;have ll:=L'.len;refine ⟨by decide,fun lo nlo=>⟨1,m,⟨rfl,rfl⟩,⟨by decide,by decide,by omega,by omega⟩,?_⟩⟩;have nlo0:=s2.free nlo;have nll:la≠lo:=fun z=>by rw [<- z,e2] at nlo;cases nlo
     refine qw (fun i σ H3=>∃ (ps:List Addr) (rs:List Road) (rows:List Row) (v4 v6 v7 v8 v9 v10:Option V),σ=[some (V.ref a),some (V.int c),some (V.int m),some (V.ref la),v4,some (V.ref lo),v6,v7,v8,v9,v10]/\Same H H3/\H3 la=some (.lst (ls.map V.int))/\H3 lo=some (.lst (ps.map V.ref))/\RoadsAt H3 ps rs/\Rows i rows/\Put ls rows rs/\(c / 1190 % 4=1->∀ x∈rs,x.a=ls.getD 0 0\/x.b=ls.getD 0 0)) ⟨[],[],[],_,_,_,_,_,_,rfl,s2.trans (Same.new _ nlo),Same.new _ nlo _ _ e2,ah,.nil,⟨rfl,fun i r h=>by cases h⟩,Put.nil _,fun _ x hx=>by cases hx⟩ ?_ ?_
     . rintro i σ H3 N hN hi ⟨ps,rs,rows,v4,v6,v7,v8,v9,v10,rfl,s3,l3,o3,ro3,R,P,hst⟩;have k0:(1:Int)<=1+(i:Int):=(by omega);have k1:1+(i:Int)<m:=(by omega);generalize hk:(1:Int)+(i:Int)=kk at k0 k1 ⊢;have psl:ps.length=rs.length:=Paired.length ro3;have rl:=R.len;have pl:=P.len;walk_at "rd";refine ixL (s3 _ _ ha) (atG (by omega) (by omega)) ⟨_,rfl,⟨by omega,by omega⟩,by omega,by omega,aJ (by simp),fun q1 nq1=>⟨⟨by decide,by decide⟩,by decide,?_⟩⟩;generalize ns.getD (kk+1).toNat 0 / (kk+1)=w;have hg:=em w kk (by omega);obtain ⟨un,hun,u0,u1⟩:∃ un:Int,atI [V.int (kk - 1),V.int 0,V.int (w % kk),V.int (w % kk)] (c / 1190 % 4)=some (.int un)/\0<=un/\un<kk:=by
         rcases (show c / 1190 % 4=0\/c / 1190 % 4=1\/c / 1190 % 4=2\/c / 1190 % 4=3 by omega) with z|z|z|z
         . exact ⟨_,by rw [z];rfl,by omega,by omega⟩
         . exact ⟨_,by rw [z];rfl,by omega,by omega⟩
         . exact ⟨_,by rw [z];rfl,hg.1,hg.2⟩
         . exact ⟨_,by rw [z];rfl,hg.1,hg.2⟩
       have s4:=Same.new (.lst [.int (kk - 1),.int 0,.int (w % kk),.int (w % kk)]) nq1;refine ixL ah hun ?_;generalize upd H3 q1 (.lst [.int (kk - 1),.int 0,.int (w % kk),.int (w % kk)])=H4 at s4 ⊢;refine ⟨⟨by omega,by omega⟩,_,rfl,fun th t0 t1=>⟨⟨by decide,by decide⟩,_,rfl,fun bk b0 b1=>⟨⟨by decide,by decide⟩,by decide,?_⟩⟩⟩;have gk:atI (ls.map V.int) kk=some (.int (ls.getD kk.toNat 0)):=cL (by omega) (by rw [List.getElem?_map,qE L' (by omega)];rfl);have gu:atI (ls.map V.int) un=some (.int (ls.getD un.toNat 0)):=cL u0 (by rw [List.getElem?_map,qE L' (by omega)];rfl);have l4:=s4 _ _ l3;generalize w / kk / 7999992 / 7999992=rest;have put:∀ (H7:Hp) (q:Addr) (row:Row) (v8 v9:Option V),Same H3 H7->row.k=kk->row.un=un->RowOk row->H7 q=some (.tup (j7 (ja ls row)))->tyV K "list" (V.ref lo) H7/\TU rest 2/\∃ x,(SqL K H7 lo x\/SqT K H7 lo x)/\0<(x.length:Int)+1/\rInsert (V.ref lo) [V.int (rest / 2 % ((x.length:Int)+1)),V.ref q] H7 fun _ H8=>N [some (V.ref a),some (V.int c),some (V.int m),some (V.ref la),some (V.int kk),some (V.ref lo),some (V.int rest),some (V.int un),v8,v9,some (V.ref q)] H8:=by
         intro H7 q row v8 v9 s7 rk ru rok hq;have o7:=s7 _ _ o3;have pe:=em (rest / 2) (((ps.map V.ref).length:Int)+1) (by omega);refine ⟨tyL o7,⟨by decide,by decide⟩,ps.map V.ref,.inl (SqL.of o7),by omega,Ro o7 pe.1 (by omega) (bG (by rw [List.length_map];omega)) ?_⟩;generalize (rest / 2 % (((ps.map V.ref).length:Int)+1)).toNat=n;have keep:∀ {zs:List V} {q:Addr} {r':Road},H7 q=some (.tup (j7 r'))->upd H7 lo (.lst zs) q=some (.tup (j7 r')):=fun {zs q r'} h=>by rw [ao (dh h o7 (by intro z;cases z))];exact h
         refine hN _ _ ⟨ps.take n++q::ps.drop n,rs.take n++ja ls row::rs.drop n,rows++[row],_,_,_,_,_,_,rfl,(s3.trans s7).put nlo0 _,by rw [ao nll];exact s7 _ _ l3,by rw [ah,List.map_append,List.map_cons,List.map_take,List.map_drop],?_,Os R (by omega) rok,P.step row n,fun z x hx=>?_⟩
         rotate_left
         . have hun0:un=0:=by
             rw [z] at hun;have:V.int 0=V.int un:=Option.some.inj hun;injection this with this
             exact this.symm
           rcases List.mem_append.mp hx with hx|hx
           . exact hst z x (List.mem_of_mem_take hx)
           . rcases List.mem_cons.mp hx with rfl|hx
             . unfold ja;rw [ru,hun0];split
               . exact .inl rfl
               . exact .inr rfl
             . exact hst z x (List.mem_of_mem_drop hx)
         exact TV n (Paired.imp' (fun p r h=>keep h) (RoadsAt.same s7 ro3)) (keep hq)
       have okR:∀ (x y z:Int),2<=x->x<=1000000->2<=y->y<=1000000->RowOk ⟨kk,un,x,y,z,0⟩:=fun x y z a b c d=>⟨u0,u1,a,b,c,d,Int.le_refl _,by show (0:Int)<kk;omega⟩;have e1:∀ x y:Int,j7 (ja ls ⟨kk,un,x,y,1,0⟩)=[V.int (ls.getD un.toNat 0),V.int (ls.getD kk.toNat 0),V.int x,V.int y]:=fun x y=>by unfold ja;rw [if_pos rfl];rfl
       have e2':∀ x y:Int,j7 (ja ls ⟨kk,un,x,y,0,0⟩)=[V.int (ls.getD kk.toNat 0),V.int (ls.getD un.toNat 0),V.int x,V.int y]:=fun x y=>by unfold ja;rw [if_neg (show ¬ (0:Int)=1 by decide)];rfl
       by_cases y1:c / 4760 % 3=0
       . rw [if_pos y1];refine ⟨⟨by decide,by decide⟩,⟨by decide,by decide⟩,ixL l4 gu (ixL l4 gk ⟨aJ (by simp),fun q2 nq2=>⟨by decide,?_⟩⟩)⟩;have s5:=s4.trans (Same.new (.tup [V.int (ls.getD un.toNat 0),V.int (ls.getD kk.toNat 0),V.int th,V.int th]) nq2);have l5:=s5 _ _ l3;by_cases y2:rest % 2=1
         . rw [if_pos y2];exact ixL l5 gk (ixL l5 gu ⟨aJ (by simp),fun q3 nq3=>put _ q3 ⟨kk,un,th,th,0,0⟩ _ _ (s5.trans (Same.new _ nq3)) rfl rfl (okR _ _ _ t0 t1 t0 t1) (by rw [ah,e2'])⟩)
         . rw [if_neg y2];exact put _ q2 ⟨kk,un,th,th,1,0⟩ _ _ s5 rfl rfl (okR _ _ _ t0 t1 t0 t1) (by rw [ah,e1])
       . rw [if_neg y1];refine ⟨⟨by decide,by decide⟩,⟨by decide,by decide⟩,ixL l4 gu (ixL l4 gk ⟨aJ (by simp),fun q2 nq2=>⟨by decide,?_⟩⟩)⟩;have s5:=s4.trans (Same.new (.tup [V.int (ls.getD un.toNat 0),V.int (ls.getD kk.toNat 0),V.int th,V.int bk]) nq2);have l5:=s5 _ _ l3;by_cases y2:rest % 2=1
         . rw [if_pos y2];exact ixL l5 gk (ixL l5 gu ⟨aJ (by simp),fun q3 nq3=>put _ q3 ⟨kk,un,bk,th,0,0⟩ _ _ (s5.trans (Same.new _ nq3)) rfl rfl (okR _ _ _ b0 b1 t0 t1) (by rw [ah,e2'])⟩)
         . rw [if_neg y2];exact put _ q2 ⟨kk,un,th,bk,1,0⟩ _ _ s5 rfl rfl (okR _ _ _ t0 t1 b0 b1) (by rw [ah,e1])
     . rintro σ H3 ⟨ps,rs,rows,v4,v6,v7,v8,v9,v10,rfl,s3,l3,o3,ro3,R,P,hst⟩;have g:=Sq (n:=m.toNat) (by omega) (by omega) L' (by rw [show m.toNat - 1=(m - 1).toNat by omega];exact R) P;rw [Int.toNat_of_nonneg (by omega)] at g;walk_at "rd";refine ⟨aJ (by simp),fun t nt=>?_⟩;have s5:=Same.new (.tup [.int m,.ref lo]) nt;exact k t lo m ps rs _ (s3.free nt) nlo0 (s3.trans s5) ah (s5 _ _ o3) (RoadsAt.same s5 ro3) g hm fun z=>⟨_,hst z⟩
def yG (T:Txt K mg):Sp:=fun vs H Q _=>∃ i:Int,vs=[.int i]/\Q (.bl true) H
abbrev cI:Stmt:=top 54
theorem F4:FnScope ["found"] ["found"] (aa cI):=FnScope.of (by kernel_rfl)
theorem o9:NmL (aa cI) "found":=.of (by kernel_rfl)
theorem cj:NmG (aa cI) "isinstance":=.of (by kernel_rfl)
theorem lQ:NmG (aa cI) "int":=.of (by kernel_rfl)
theorem ku:NmG (aa cI) "bool":=.of (by kernel_rfl)
theorem GH (T:Txt K mg) (hq:aQ (CXe P w)) {f:Addr} {fd:FuncData} (D:Df K mg "_law_whole" cI ["found"] f fd):FnOk P w K mg base (CXe P w) 1 f fd ["found"] (yG T):=by
 refine D.F.okC F4 (fun vs H Q E h=>?_) (fun cdv A outer s H vs Q E hr h=>?_)
 . obtain ⟨i,rfl,_⟩:=h
   rfl
 . obtain ⟨i,rfl,k⟩:=h;refine ⟨_,(ap (aO (F7 (cz zM cj.g T.isinstance wD (ag (pvl 0 o9) (ag (J5 (v:=.ty "int") lQ.g T.int Gv rfl (hn:=lQ.n) (hd:=lQ.d)) ak)) (hn:=cj.n) (hdb:=cj.d)) (Gy (NJ (cz zM cj.g T.isinstance wD (ag (pvl 0 o9) (ag (J5 (v:=.ty "bool") ku.g T.bool SF rfl (hn:=ku.n) (hd:=ku.d)) ak)) (hn:=cj.n) (hdb:=cj.d))))))),?_⟩;rw [show L2.start ["found"] [V.int i]=[some (V.int i)] from rfl];walk_at "rd";refine ⟨_,_,_,true,rfl,.int i,fun cv h=>by cases h;rfl,_,rfl,?_⟩;rw [if_pos rfl];refine ⟨_,_,_,false,rfl,.int i,fun cv h=>by cases h;rfl,_,rfl,?_⟩;exact k
def g9 (T:Txt K mg):Sp:=fun vs H Q E=>∃ (p t:Addr) (m:Int) (ps:List Addr) (rs:List Road) (n:Int),vs=[.ref p,.int n]/\WebAt T.Web H p m t ps rs/\(0<=n->n<m->Q .non H)/\(¬ (0<=n/\n<m)->E (.ref T.NoPlace) none H)
abbrev bq:Stmt:=top 13
theorem C0:FnScope ["web","number"] ["web","number"] (aa bq):=FnScope.of (by kernel_rfl)
theorem xc:NmL (aa bq) "web":=.of (by kernel_rfl)
theorem uB:NmL (aa bq) "number":=.of (by kernel_rfl)
theorem kj:NmG (aa bq) "is_place":=.of (by kernel_rfl)
theorem kR:NmG (aa bq) "NoPlace":=.of (by kernel_rfl)
theorem Dm (T:Txt K mg) (hq:aQ (CXe P w)) {f:Addr} {fd:FuncData} (D:Df K mg "check_place" bq ["web","number"] f fd) {eB:Addr} {kN:FuncData} (cB:Df K mg "is_place" dj ["many","number"] eB kN) (G_is_place:FnOk P w K mg base (CXe P w) 1 eB kN ["many","number"] (sL T)):FnOk P w K mg base (CXe P w) 2 f fd ["web","number"] (g9 T):=by
 refine D.F.okX C0 (fun vs H Q E h=>?_) (fun cdv A outer s H vs Q E hr h=>?_)
 . obtain ⟨p,t,m,ps,rs,n,rfl,_⟩:=h
   rfl
 . obtain ⟨p,t,m,ps,rs,n,rfl,W,k,e⟩:=h;obtain ⟨dx,ob⟩:=W.ob;refine ⟨_,(ap (bT (ub (ul (au G_is_place (hr.mono (by decide)) kj.g cB.m cB.F.kp cB.b .nil fJ (ag (dR  (pvl 0 xc) rfl) (ag (pvl 1 uB) ak)) (hdb:=kj.d)))) (ap (A3 T.Ow rfl DP kR.g T.MG (ag GW ak) (hdb:=kR.d))) bp)),?_⟩;rw [show L2.start ["web","number"] [V.ref p,V.int n]=[some (V.ref p),some (V.int n)] from rfl];walk_at "rd";refine ⟨T.Web,dx,_,ob,T.kI,T.n_many,_,my m t,m,n,rfl,_,rfl,?_⟩;by_cases c:0<=n/\n<m
   . rw [if_neg (by simp [c.1,c.2])];exact k c.1 c.2
   . rw [if_pos (by simpa [Bool.and_eq_true] using c)];exact ⟨by decide,e c⟩
def wJ (T:Txt K mg):Sp:=fun vs H Q E=>∃ (p t:Addr) (m:Int) (ps:List Addr) (rs:List Road) (a:Int),vs=[.ref p,.int a]/\WebAt T.Web H p m t ps rs /\
 (∀ l H',0<=a->a<m->H l=none->Same H H'->H' l=some (.lst ((fU m rs a).map V.int))->Q (.ref l) H')/\(¬ (0<=a/\a<m)->E (.ref T.NoPlace) none H)
abbrev b5:Stmt:=top 12
theorem Fa:FnScope ["web","a"] ["web","a"] (aa b5):=FnScope.of (by kernel_rfl)
theorem qf:NmL (aa b5) "web":=.of (by kernel_rfl)
theorem sv:NmL (aa b5) "a":=.of (by kernel_rfl)
theorem jE:NmG (aa b5) "check_place":=.of (by kernel_rfl)
theorem iE:NmG (aa b5) "sorted":=.of (by kernel_rfl)
theorem jQ:NmG (aa b5) "other_ends":=.of (by kernel_rfl)
theorem E6 (T:Txt K mg) (hq:aQ (CXe P w)) {f:Addr} {fd:FuncData} (D:Df K mg "neighbours" b5 ["web","a"] f fd) {bg:Addr} {b4:FuncData} (aB:Df K mg "check_place" bq ["web","number"] bg b4) (G_check_place:FnOk P w K mg base (CXe P w) 2 bg b4 ["web","number"] (g9 T)) {cV:Addr} {jb:FuncData} (cF:Df K mg "other_ends" bZ ["roads","place"] cV jb) (G_other_ends:FnOk P w K mg base (CXe P w) 1 cV jb ["roads","place"] (pM T)):FnOk P w K mg base (CXe P w) 3 f fd ["web","a"] (wJ T):=by
 refine D.F.okX Fa (fun vs H Q E h=>?_) (fun cdv A outer s H vs Q E hr h=>?_)
 . obtain ⟨p,t,m,ps,rs,a,rfl,_⟩:=h
   rfl
 . obtain ⟨p,t,m,ps,rs,a,rfl,W,k,e⟩:=h;obtain ⟨dx,ob⟩:=W.ob;refine ⟨_,(aj (bw (au G_check_place (hr.mono (by decide)) jE.g aB.m aB.F.kp aB.b .nil fJ (ag (pvl 0 qf) (ag (pvl 1 sv) ak)) (hdb:=jE.d))) (ap (aO (cz IM iE.g T.sorted NT (ag (au G_other_ends (hr.mono (by decide)) jQ.g cF.m cF.F.kp cF.b .nil fJ (ag (dR  (pvl 0 qf) rfl) (ag (pvl 1 sv) ak)) (hdb:=jQ.d)) ak) (hn:=iE.n) (hdb:=iE.d))))),?_⟩;rw [show L2.start ["web","a"] [V.ref p,V.int a]=[some (V.ref p),some (V.int a)] from rfl];walk_at "rd";refine ⟨p,t,m,ps,rs,a,rfl,W,fun a0 a1=>?_,e⟩;have hlen:(rs.length:Int)=m - 1:=W.go.len;have m24:=W.go.m24;refine ⟨T.Web,dx,_,ob,T.kI,T.n_roads,_,zO m t,t,ps,rs,a,rfl,SqT.of W.tu,W.ro,by omega,fun l1 H1 n1 s1 e1=>?_⟩;refine ⟨l1,rfl,cw rs a,SqL.of e1,by have:=Gb rs a;omega,fun l2 zs n2 pz sz=>?_⟩;rw [SK W.go a0 a1 pz sz];exact k l2 _ a0 a1 (s1.free n2) (s1.trans (Same.new _ n2)) ah
def y0 (T:Txt K mg):Sp:=fun vs H Q _=>∃ (p t:Addr) (m:Int) (ps:List Addr) (rs:List Road) (a:Int) (fv:V),vs=[.ref p,.int a,fv]/\WebAt T.Web H p m t ps rs/\0<=a/\a<m/\(fv=.non\/∃ i,fv=.int i) /\
 ∀ l H',H l=none->Same H H'->H' l=some (.lst ((aK m rs fv a).map V.int))->Q (.ref l) H'
abbrev fZ:Stmt:=top 23
theorem SB:FnScope ["web","place","front"] ["web","place","front"] (aa fZ):=FnScope.of (by kernel_rfl)
theorem IZ:NmL (aa fZ) "web":=.of (by kernel_rfl)
theorem Fm:NmL (aa fZ) "place":=.of (by kernel_rfl)
theorem S3:NmC (aa fZ) "front":=.of (by kernel_rfl)
theorem pj:NmG (aa fZ) "neighbours":=.of (by kernel_rfl)
theorem SS (T:Txt K mg) (hq:aQ (CXe P w)) {f:Addr} {fd:FuncData} (D:Df K mg "kids" fZ ["web","place","front"] f fd) {f7:Addr} {wz:FuncData} (ik:Df K mg "neighbours" b5 ["web","a"] f7 wz) (G_neighbours:FnOk P w K mg base (CXe P w) 3 f7 wz ["web","a"] (wJ T)):FnOk P w K mg base (CXe P w) 4 f fd ["web","place","front"] (y0 T):=by
 refine D.F.okC SB (fun vs H Q E h=>?_) (fun cdv A outer s H vs Q E hr h=>?_)
 . obtain ⟨p,t,m,ps,rs,a,fv,rfl,_⟩:=h
   rfl
 . obtain ⟨p,t,m,ps,rs,a,fv,rfl,W,a0,a1,hf,k⟩:=h;have m24:=W.go.m24;refine ⟨_,(ap (aO (eW rfl (gr (Nc:=["near","front"]) 1 [2] (by decide +kernel) rfl (by decide +kernel) rfl (by show ∀ (y:Str × NameKind),y∈_->y.2=NameKind.free->(aa fZ).names.lookup y.1=some NameKind.cell;decide +kernel) rfl (fun _ h=>dA h) (fun i hi=>match i,hi with|0,_=>⟨"front",2,rfl,rfl,rfl,by decide +kernel⟩|i+1,hi=>absurd hi (by show ¬ i+1<1;omega))) (eY (au G_neighbours (hr.mono (by decide)) pj.g ik.m ik.F.kp ik.b .nil (aL hq) (ag (pvl 0 IZ) (ag (pvl 1 Fm) ak)) (hdb:=pj.d))) (fun _ _ _ _=>(ax (i:=0) (show (["near","front"]:List Str).Nodup from by decide +kernel) rfl (Or.inl rfl))) (fun _ _ _ _=>(uA (aX sA (pv 0) (pv 1) (bc _)))) (fun _ _ _ _=>(pv 0))))),?_⟩;rw [show L2.start ["web","place","front"] [V.ref p,V.int a,fv]=[some (V.ref p),some (V.int a),some fv] from rfl];walk_at "rd";have nl:(fU m rs a).length<=24:=by
     have:=List.length_filter_le (fun q=>decide (q∈cw rs a)) (below m.toNat);rw [aY] at this;unfold fU;omega
   refine ⟨p,t,m,ps,rs,a,rfl,W,fun l1 H1 _ _ n1 s1 e1=>⟨l1,rfl,⟨_,SqL.of e1⟩,fun l2 n2=>?_⟩,fun z=>absurd ⟨a0,a1⟩ z⟩;have n20:H l2=none:=s1.free n2;refine lU (c:=true) (K:=K) (a:=l1) (xs:=(fU m rs a).map V.int) (fun j ys σ H2=>Same H1 H2/\H2 l2=some (.lst ys)/\ys=(((fU m rs a).take j).filter fun v=>decide (V.int v≠fv)).map V.int/\∃ v,σ=[v,some fv]) ⟨Same.new _ n2,ah,rfl,_,rfl⟩ (fun j ys σ H2 _ z=>SqL.of (z.1 _ _ e1)) ?_ ?_
   . rintro j xj ys σ H2 N hN hj ⟨s2,h2,rfl,v,rfl⟩;rw [List.getElem?_map] at hj;obtain ⟨b,hb,rfl⟩:=Option.map_eq_some_iff.mp hj;have et:(fU m rs a).take (j+1)=(fU m rs a).take j++[b]:=(by rw [List.take_succ,hb];rfl);have ll:(((fU m rs a).take j).filter fun v=>decide (V.int v≠fv)).length<=24:=by
       have h1:=List.length_filter_le (fun v=>decide (V.int v≠fv)) ((fU m rs a).take j);rw [List.length_take] at h1;omega
     walk_at "rd";have sc:rL (V.int b) fv=true:=by
       rcases hf with rfl|⟨i,rfl⟩ <;> rfl
     refine ⟨sc,?_⟩;by_cases c:V.int b=fv
     . rw [if_neg (fun z=>z c)];refine hN _ _ _ ⟨s2,h2,?_,_,rfl⟩;rw [et,List.filter_append];simp [c]
     . rw [if_pos c];refine ⟨h2,bG (by rw [List.length_map];omega),hN _ _ _ ⟨s2.put n2 _,ah,?_,_,rfl⟩⟩;rw [et,List.filter_append];simp [c]
   . rintro ys σ H2 ⟨s2,h2,rfl,v,rfl⟩;rw [List.length_map,List.take_length] at h2;exact k l2 H2 n20 (s1.trans s2) h2
def vV (T:Txt K mg):Sp:=fun vs H Q E=>∃ (p t:Addr) (m:Int) (ps:List Addr) (rs:List Road) (r:Int),vs=[.ref p,.int r]/\WebAt T.Web H p m t ps rs /\
 (0<=r->r<m->∃ par dep,Rooted m rs r par dep/\∀ l H',H l=none->Same H H'->H' l=some (.lst (mB m r par))->Q (.ref l) H')/\(¬ (0<=r/\r<m)->E (.ref T.NoPlace) none H)
abbrev cN:Stmt:=top 21
theorem nU:FnScope ["web","r","nearer","waiting","place","front","kid"] ["web","r"] (aa cN):=FnScope.of (by kernel_rfl)
theorem qM:NmL (aa cN) "web":=.of (by kernel_rfl)
theorem BR:NmL (aa cN) "r":=.of (by kernel_rfl)
theorem jv:NmL (aa cN) "nearer":=.of (by kernel_rfl)
theorem iW:NmL (aa cN) "waiting":=.of (by kernel_rfl)
theorem kh:NmL (aa cN) "place":=.of (by kernel_rfl)
theorem tW:NmL (aa cN) "front":=.of (by kernel_rfl)
theorem rm:NmL (aa cN) "kid":=.of (by kernel_rfl)
theorem mI:NmG (aa cN) "check_place":=.of (by kernel_rfl)
theorem wP:NmG (aa cN) "kids":=.of (by kernel_rfl)
theorem QS (T:Txt K mg) (hq:aQ (CXe P w)) {f:Addr} {fd:FuncData} (D:Df K mg "ahead" cN ["web","r"] f fd) {bg:Addr} {b4:FuncData} (aB:Df K mg "check_place" bq ["web","number"] bg b4) (G_check_place:FnOk P w K mg base (CXe P w) 2 bg b4 ["web","number"] (g9 T)) {g6:Addr} {me:FuncData} (fB:Df K mg "kids" fZ ["web","place","front"] g6 me) (G_kids:FnOk P w K mg base (CXe P w) 4 g6 me ["web","place","front"] (y0 T)):FnOk P w K mg base (CXe P w) 5 f fd ["web","r"] (vV T):=by
 refine D.F.okX nU (fun vs H Q E h=>?_) (fun cdv A outer s H vs Q E hr h=>?_)
 . obtain ⟨p,t,m,ps,rs,r,rfl,_⟩:=h
   rfl
 . obtain ⟨p,t,m,ps,rs,r,rfl,W,k,e⟩:=h;obtain ⟨dx,ob⟩:=W.ob;have g:=W.go;have m24:=g.m24;refine ⟨_,(aj (bw (au G_check_place (hr.mono (by decide)) mI.g aB.m aB.F.kp aB.b .nil fJ (ag (pvl 0 qM) (ag (pvl 1 BR) ak)) (hdb:=mI.d))) (aj (aw (i:=2) nU.nd rfl (Or.inl jv.l) (aq yg (cg (ag BT ak)) (dR  (pvl 0 qM) rfl))) (aj (aw (i:=3) nU.nd rfl (Or.inl iW.l) (cg (ag (pvl 1 BR) ak))) (aj (nN PassesOwn.leaving (rh (pvl 3 iW) (fun _=>rfl)) (aj (aw (i:=4) nU.nd rfl (Or.inl kh.l) (B5 PySem.F.plainAttrs_list PySem.F.slot_list_pop PySem.F.type_list_pop CB (pvl 3 iW))) (aj (aw (i:=5) nU.nd rfl (Or.inl tW.l) (aH aM (pvl 2 jv) (pvl 4 kh) (fun _ _=>rfl))) (ap (cq PassesOwn.leaving rfl (eY (au G_kids (hr.mono (by decide)) wP.g fB.m fB.F.kp fB.b .nil fJ (ag (pvl 0 qM) (ag (pvl 4 kh) (ag (pvl 5 tW) ak))) (hdb:=wP.d))) (ax (i:=6) nU.nd rfl (Or.inl rm.l)) (aj (lf (pvl 4 kh) (rJ (pvl 2 jv) (pvl 6 rm) lK)) (ap (bw (gh PySem.F.plainAttrs_list PySem.F.slot_list_append PySem.F.type_list_append cG (pvl 3 iW) (ag (pvl 6 rm) ak)))))))))) (ap (aO (pvl 2 jv))))))),?_⟩;rw [show L2.start ["web","r","nearer","waiting","place","front","kid"] [V.ref p,V.int r]=[some (V.ref p),some (V.int r),none,none,none,none,none] from rfl];walk_at "rd";refine ⟨p,t,m,ps,rs,r,rfl,W,fun r0 r1=>?_,e⟩;obtain ⟨par,dep,R,k⟩:=k r0 r1;refine ⟨by decide,fun l1 n1=>?_⟩;have s1:=Same.new (.lst [V.non]) n1;refine ⟨T.Web,dx,_,s1 _ _ ob,T.kI,T.n_many,_,rfl,?_⟩;refine ⟨l1,m,[V.non],rfl,rfl,ah,by omega,by omega,aJ (by simp;omega),fun l2 n2=>?_⟩;have n20:H l2=none:=s1.free n2;rw [GP,<- Ur (par:=par)];have s2:=s1.trans (Same.new (.lst (nl m par [])) n2);refine ⟨aJ (by simp),fun l3 n3=>?_⟩;have n30:H l3=none:=s2.free n3;have n32:l3≠l2:=fun z=>by rw [z,ah] at n3;cases n3
   have s3:=s2.trans (Same.new (.lst [V.int r]) n3);have e2:upd (upd (upd H l1 (.lst [V.non])) l2 (.lst (nl m par []))) l3 (.lst [V.int r]) l2=some (.lst (nl m par [])):=by rw [ao n32.symm,ah]
   have e3:upd (upd (upd H l1 (.lst [V.non])) l2 (.lst (nl m par []))) l3 (.lst [V.int r]) l3=some (.lst [V.int r]):=ah;generalize upd (upd (upd H l1 (.lst [V.non])) l2 (.lst (nl m par []))) l3 (.lst [V.int r])=H3 at s3 e2 e3 ⊢;refine Db (fun n σ H4=>∃ (ks ws:List Int) (v4 v5 v6:Option V),n=2*(m.toNat - ks.length)+ws.length/\σ=[some (.ref p),some (.int r),some (.ref l2),some (.ref l3),v4,v5,v6]/\Same H H4/\H4 l2=some (.lst (nl m par ks))/\H4 l3=some (.lst (ws.map V.int))/\AInv m rs r par ks ws) (2*m.toNat+1) ⟨[],[r],_,_,_,rfl,rfl,s3,e2,e3,AInv.start⟩ ?_;rintro n σ H4 NW BB hBB hN hN2 ⟨ks,ws,v4,v5,v6,rfl,rfl,s4,h2,h3,J⟩;refine hBB _ _ _ ?_;have kl:=cH (by omega) J.nd J.rng;walk_at "rd";refine ⟨_,.inl ⟨_,SqL.of h3,rfl⟩,?_⟩;rcases List.eq_nil_or_concat ws with rfl|⟨ws',q,rfl⟩
   . rw [if_neg (by simp)];rw [J.done R] at h2;exact k l2 H4 n20 s4 h2
   . rw [List.concat_eq_append] at J h3 hN hN2 ⊢;rw [if_pos (by simp)];have hq:q∈ws'++[q]:=List.mem_append_right _ (List.mem_singleton.mpr rfl);have pr:=J.at_ r0 r1 hq;have J2:=J.step g R r0 r1 (p:=q) (ws':=ws') (List.perm_append_singleton q ws');refine ⟨NW,fun σ' H' z=>?_,?_⟩
     . obtain ⟨m',lt,ks',ws'',a4,a5,a6,e1,e2,e3⟩:=hN2 _ _ z;exact ⟨m',lt,ks',ws'',e1,a4,a5,a6,e2,e3⟩
     rw [List.map_append,List.map_cons,List.map_nil] at h3;refine ⟨tyL h3,La h3 ?_⟩;have s5:Same H (upd H4 l3 (.lst (ws'.map V.int))):=s4.put n30 _;have h25:upd H4 l3 (.lst (ws'.map V.int)) l2=some (.lst (nl m par ks)):=(by rw [ao n32.symm];exact h2);have h35:upd H4 l3 (.lst (ws'.map V.int)) l3=some (.lst (ws'.map V.int)):=ah;generalize upd H4 l3 (.lst (ws'.map V.int))=H5 at s5 h25 h35 ⊢;refine ixL h25 (cL pr.1 (MY pr.1 pr.2)) ?_;rw [J.front hq];have hfv:Pb.front r par q=.non\/∃ i,Pb.front r par q=.int i:=by
       unfold Pb.front;by_cases c:q=r
       . rw [if_pos c];exact .inl rfl
       . rw [if_neg c];exact .inr ⟨_,rfl⟩
     have mk:∀ v,v∈aK m rs (Pb.front r par q) q->(0<=v/\v<m)/\v≠r/\par v=q:=fun v=>(ba g R pr.1 pr.2).mp;refine ⟨p,t,m,ps,rs,q,_,rfl,W.same s5,pr.1,pr.2,hfv,fun l6 H6 n6 s6 e6=>⟨l6,rfl,⟨_,SqL.of e6⟩,?_⟩⟩;generalize aK m rs (Pb.front r par q) q=kk at mk e6 J2 ⊢;have n6':H l6=none:=s5.free n6;have n62:l6≠l2:=fun z=>by rw [z,h25] at n6;cases n6
     have n63:l6≠l3:=fun z=>by rw [z,h35] at n6;cases n6
     have kl2:=cH (by omega) J2.nd J2.rng;rw [List.length_append] at kl2;have wl2:=cH (by omega) J2.wnd fun w hw=>J2.at_ r0 r1 hw;rw [List.length_append] at wl2;refine pi (K:=K) (xs:=kk.map V.int) (fun i σ H7=>∃ v6,σ=[some (.ref p),some (.int r),some (.ref l2),some (.ref l3),some (.int q),some (Pb.front r par q),v6]/\Same H H7/\H7 l6=some (.lst (kk.map V.int))/\H7 l2=some (.lst (nl m par (ks++kk.take i)))/\H7 l3=some (.lst ((ws'++kk.take i).map V.int))) ⟨_,rfl,s5.trans s6,e6,by rw [List.take_zero,List.append_nil];exact s6 _ _ h25,by rw [List.take_zero,List.append_nil];exact s6 _ _ h35⟩ (fun i σ H7 _ z=>by obtain ⟨_,_,_,z,_⟩:=z;exact SqL.of z) ?_ ?_
     . rintro i x σ H7 NI BB hBB hI hi ⟨v6,rfl,s7,e7,h27,h37⟩;refine hBB _ _ ?_;rw [List.getElem?_map] at hi;obtain ⟨v,hv,rfl⟩:=Option.map_eq_some_iff.mp hi;obtain ⟨vr,_,vp⟩:=mk v (List.mem_of_getElem? hv);have et:kk.take (i+1)=kk.take i++[v]:=(by rw [List.take_succ,hv];rfl);walk_at "rd";refine ⟨l2,_,v,v.toNat,rfl,rfl,h27,by unfold ixN;rw [if_pos vr.1,if_pos (by rw [si];omega)],?_⟩;rw [<- vp,UB vr.1 vr.2,vp,List.append_assoc,<- et];have h38:upd H7 l2 (.lst (nl m par (ks++kk.take (i+1)))) l3=some (.lst ((ws'++kk.take i).map V.int)):=(by rw [ao n32];exact h37);have wlen:(ws'++kk.take i).length<=100:=by
         rw [List.length_append,List.length_take];omega
       refine ⟨tyL h38,pN h38 (bG (by rw [List.length_map];omega)) (hI _ _ ⟨_,rfl,(s7.put n20 _).put n30 _,?_,?_,?_⟩)⟩
       . rw [ao n63,ao n62];exact e7
       . rw [ao n32.symm,ah]
       . rw [ah,et,<- List.append_assoc,List.map_append (l₁:=ws'++kk.take i)];rfl
     . rintro BB σ H7 hBB ⟨v6,rfl,s7,e7,h27,h37⟩;refine hBB _ _ ?_;rw [List.length_map,List.take_length] at h27 h37;refine hN _ _ _ ?_ ⟨_,_,_,_,_,rfl,rfl,s7,h27,h37,J2⟩;rw [List.length_append,List.length_append,List.length_append];simp only [List.length_cons,List.length_nil];omega
def Dg (T:Txt K mg):Sp:=fun vs H Q E=>∃ (p t:Addr) (m:Int) (ps:List Addr) (rs:List Road) (r:Int),vs=[.ref p,.int r]/\WebAt T.Web H p m t ps rs /\
 (0<=r->r<m->∃ par dep,Rooted m rs r par dep/\∀ l H',H l=none->Same H H'->H' l=some (.lst ((bj m rs r par dep r).map V.int))->(bj m rs r par dep r).Nodup->(∀ v,v∈bj m rs r par dep r↔0<=v/\v<m)->Q (.ref l) H')/\(¬ (0<=r/\r<m)->E (.ref T.NoPlace) none H)
abbrev dE:Stmt:=top 22
theorem qF:FnScope ["web","r","nearer","places","waiting","place","kid"] ["web","r"] (aa dE):=FnScope.of (by kernel_rfl)
theorem zP:NmL (aa dE) "web":=.of (by kernel_rfl)
theorem Ey:NmL (aa dE) "r":=.of (by kernel_rfl)
theorem uc:NmL (aa dE) "nearer":=.of (by kernel_rfl)
theorem oG:NmL (aa dE) "places":=.of (by kernel_rfl)
theorem jB:NmL (aa dE) "waiting":=.of (by kernel_rfl)
theorem lh:NmL (aa dE) "place":=.of (by kernel_rfl)
theorem zC:NmL (aa dE) "kid":=.of (by kernel_rfl)
theorem wO:NmG (aa dE) "ahead":=.of (by kernel_rfl)
theorem A1:NmG (aa dE) "reversed":=.of (by kernel_rfl)
theorem xM:NmG (aa dE) "kids":=.of (by kernel_rfl)
theorem SU (T:Txt K mg) (hq:aQ (CXe P w)) {f:Addr} {fd:FuncData} (D:Df K mg "down" dE ["web","r"] f fd) {fM:Addr} {jG:FuncData} (dG:Df K mg "ahead" cN ["web","r"] fM jG) (G_ahead:FnOk P w K mg base (CXe P w) 5 fM jG ["web","r"] (vV T)) {g6:Addr} {me:FuncData} (fB:Df K mg "kids" fZ ["web","place","front"] g6 me) (G_kids:FnOk P w K mg base (CXe P w) 4 g6 me ["web","place","front"] (y0 T)):FnOk P w K mg base (CXe P w) 6 f fd ["web","r"] (Dg T):=by
 refine D.F.okX qF (fun vs H Q E h=>?_) (fun cdv A outer s H vs Q E hr h=>?_)
 . obtain ⟨p,t,m,ps,rs,r,rfl,_⟩:=h
   rfl
 . obtain ⟨p,t,m,ps,rs,r,rfl,W,k,e⟩:=h;have g:=W.go;have m24:=g.m24;refine ⟨_,(aj (aw (i:=2) qF.nd rfl (Or.inl uc.l) (au G_ahead (hr.mono (by decide)) wO.g dG.m dG.F.kp dG.b .nil fJ (ag (pvl 0 zP) (ag (pvl 1 Ey) ak)) (hdb:=wO.d))) (aj (aw (i:=3) qF.nd rfl (Or.inl oG.l) (cg ak)) (aj (aw (i:=4) qF.nd rfl (Or.inl jB.l) (cg (ag (pvl 1 Ey) ak))) (aj (nN PassesOwn.leaving (rh (pvl 4 jB) (fun _=>rfl)) (aj (aw (i:=5) qF.nd rfl (Or.inl lh.l) (B5 PySem.F.plainAttrs_list PySem.F.slot_list_pop PySem.F.type_list_pop CB (pvl 4 jB))) (aj (bw (gh PySem.F.plainAttrs_list PySem.F.slot_list_append PySem.F.type_list_append cG (pvl 3 oG) (ag (pvl 5 lh) ak))) (ap (cq PassesOwn.leaving rfl (rG A1.g T.reversed (au G_kids (hr.mono (by decide)) xM.g fB.m fB.F.kp fB.b .nil fJ (ag (pvl 0 zP) (ag (pvl 5 lh) (ag (aH aM (pvl 2 uc) (pvl 5 lh) (fun _ _=>rfl)) ak))) (hdb:=xM.d))) (ax (i:=6) qF.nd rfl (Or.inl zC.l)) (ap (bw (gh PySem.F.plainAttrs_list PySem.F.slot_list_append PySem.F.type_list_append cG (pvl 4 jB) (ag (pvl 6 zC) ak))))))))) (ap (aO (pvl 3 oG))))))),?_⟩;rw [show L2.start ["web","r","nearer","places","waiting","place","kid"] [V.ref p,V.int r]=[some (V.ref p),some (V.int r),none,none,none,none,none] from rfl];walk_at "rd";refine ⟨p,t,m,ps,rs,r,rfl,W,fun r0 r1=>?_,e⟩;obtain ⟨par,dep,R,k⟩:=k r0 r1;refine ⟨par,dep,R,fun l1 H1 n1 s1 e1=>⟨by decide,fun l3 n3=>⟨aJ (by simp),fun l4 n4=>?_⟩⟩⟩;have n30:H l3=none:=s1.free n3;have s3:=s1.trans (Same.new (.lst []) n3);have n40:H l4=none:=s3.free n4;have n13:l1≠l3:=fun z=>by rw [<- z,e1] at n3;cases n3
   have n34:l3≠l4:=fun z=>by rw [<- z,ah] at n4;cases n4
   have e13:=Same.new (.lst []) n3 _ _ e1;have n14:l1≠l4:=fun z=>by rw [<- z,e13] at n4;cases n4
   have s4:=s3.trans (Same.new (.lst [V.int r]) n4);have e14:=Same.new (.lst [V.int r]) n4 _ _ e13;have e34:upd (upd H1 l3 (.lst [])) l4 (.lst [V.int r]) l3=some (.lst []):=by rw [ao n34,ah]
   have e44:upd (upd H1 l3 (.lst [])) l4 (.lst [V.int r]) l4=some (.lst [V.int r]):=ah;generalize upd (upd H1 l3 (.lst [])) l4 (.lst [V.int r])=H4 at s4 e14 e34 e44 ⊢;refine Db (fun n σ H5=>∃ (ks ws pl:List Int) (v5 v6:Option V),n=2*(m.toNat - ks.length)+ws.length/\σ=[some (.ref p),some (.int r),some (.ref l1),some (.ref l3),some (.ref l4),v5,v6]/\Same H H5/\H5 l1=some (.lst (mB m r par))/\H5 l3=some (.lst (pl.map V.int))/\H5 l4=some (.lst (ws.map V.int))/\AInv m rs r par ks ws/\(pl++ws).Perm (r::ks)/\pl++ws.reverse.flatMap (bj m rs r par dep)=bj m rs r par dep r) (2*m.toNat+1) ⟨[],[r],[],_,_,rfl,rfl,s4,e14,e34,e44,AInv.start,List.Perm.refl _,by simp⟩ ?_;rintro n σ H5 NW BB hBB hN hN2 ⟨ks,ws,pl,v5,v6,rfl,rfl,s5,h1,h3,h4,J,pe,ep⟩;refine hBB _ _ _ ?_;have rk:∀ w∈r::ks,0<=w/\w<m:=fun w hw=>by
     rcases List.mem_cons.mp hw with rfl|z
     . exact ⟨r0,r1⟩
     . exact J.rng w z
   have nk:(r::ks).Nodup:=List.nodup_cons.mpr ⟨J.nr,J.nd⟩;have kl:=cH (m:=m) (by omega) nk rk;have kl1:=cH (m:=m) (by omega) J.nd J.rng;have pl1:=pe.length_eq;rw [List.length_append] at pl1;rw [List.length_cons] at kl pl1;walk_at "rd";refine ⟨_,.inl ⟨_,SqL.of h4,rfl⟩,?_⟩;rcases List.eq_nil_or_concat ws with rfl|⟨ws',q,rfl⟩
   . rw [if_neg (by simp)];rw [List.reverse_nil,List.flatMap_nil,List.append_nil] at ep;rw [List.append_nil] at pe;subst ep;refine k l3 H5 n30 s5 h3 (pe.nodup_iff.mpr nk) fun v=>⟨fun z=>rk v (pe.mem_iff.mp z),fun z=>pe.mem_iff.mpr ?_⟩;by_cases c:v=r
     . rw [c];exact List.mem_cons_self
     . exact List.mem_cons_of_mem _ (J.all R v z.1 z.2 c)
   . rw [List.concat_eq_append] at J h4 hN hN2 pe ep pl1 ⊢;rw [if_pos (by simp)];have hq:q∈ws'++[q]:=List.mem_append_right _ (List.mem_singleton.mpr rfl);have pr:=J.at_ r0 r1 hq;have J2:=J.step g R r0 r1 (p:=q) (ws':=ws') (List.perm_append_singleton q ws');refine ⟨NW,fun σ' H' z=>?_,?_⟩
     . obtain ⟨m',lt,ks',ws'',pl',a5,a6,z1,z2⟩:=hN2 _ _ z;exact ⟨m',lt,ks',ws'',z1,pl',a5,a6,z2⟩
     rw [List.map_append,List.map_cons,List.map_nil] at h4;refine ⟨tyL h4,La h4 ?_⟩;have s6:Same H (upd H5 l4 (.lst (ws'.map V.int))):=s5.put n40 _;have h36:upd H5 l4 (.lst (ws'.map V.int)) l3=some (.lst (pl.map V.int)):=(by rw [ao n34];exact h3);have h16:upd H5 l4 (.lst (ws'.map V.int)) l1=some (.lst (mB m r par)):=(by rw [ao n14];exact h1);have h46:upd H5 l4 (.lst (ws'.map V.int)) l4=some (.lst (ws'.map V.int)):=ah;generalize upd H5 l4 (.lst (ws'.map V.int))=H6 at s6 h36 h16 h46 ⊢;refine ⟨tyL h36,pN h36 (bG (by rw [List.length_map];omega)) ?_⟩;have s7:Same H (upd H6 l3 (.lst (pl.map V.int++[V.int q]))):=s6.put n30 _;have h37:upd H6 l3 (.lst (pl.map V.int++[V.int q])) l3=some (.lst ((pl++[q]).map V.int)):=(by rw [ah,List.map_append];rfl);have h17:upd H6 l3 (.lst (pl.map V.int++[V.int q])) l1=some (.lst (mB m r par)):=(by rw [ao n13];exact h16);have h47:upd H6 l3 (.lst (pl.map V.int++[V.int q])) l4=some (.lst (ws'.map V.int)):=(by rw [ao n34.symm];exact h46);generalize upd H6 l3 (.lst (pl.map V.int++[V.int q]))=H7 at s7 h37 h17 h47 ⊢;refine ixL h17 (cL pr.1 (AN pr.1 pr.2)) ?_;have hfv:Pb.front r par q=.non\/∃ i,Pb.front r par q=.int i:=by
       unfold Pb.front;by_cases c:q=r
       . rw [if_pos c];exact .inl rfl
       . rw [if_neg c];exact .inr ⟨_,rfl⟩
     have pq:=db g R pr.1 pr.2;refine ⟨p,t,m,ps,rs,q,_,rfl,W.same s7,pr.1,pr.2,hfv,fun l8 H8 n8 s8 e8=>⟨l8,rfl,_,SqL.of e8,?_⟩⟩;generalize aK m rs (Pb.front r par q) q=kk at e8 J2 pq ⊢;have n81:l1≠l8:=fun z=>by rw [<- z,h17] at n8;cases n8
     have n83:l3≠l8:=fun z=>by rw [<- z,h37] at n8;cases n8
     have n84:l4≠l8:=fun z=>by rw [<- z,h47] at n8;cases n8
     have kl2:=cH (m:=m) (by omega) J2.nd J2.rng;rw [List.length_append] at kl2;have wl2:=cH (m:=m) (by omega) J2.wnd fun w hw=>J2.at_ r0 r1 hw;rw [List.length_append] at wl2;refine nF (K:=K) (xs:=kk.map V.int) (fun i σ H9=>∃ v6,σ=[some (.ref p),some (.int r),some (.ref l1),some (.ref l3),some (.ref l4),some (.int q),v6]/\Same H H9/\H9 l8=some (.lst (kk.map V.int))/\H9 l1=some (.lst (mB m r par))/\H9 l3=some (.lst ((pl++[q]).map V.int))/\H9 l4=some (.lst ((ws'++kk.reverse.take i).map V.int))) ⟨_,rfl,s7.trans s8,e8,s8 _ _ h17,s8 _ _ h37,by rw [List.take_zero,List.append_nil];exact s8 _ _ h47⟩ (fun i σ H9 _ z=>by obtain ⟨_,_,_,z,_⟩:=z;exact SqL.of z) ?_ ?_
     . rintro i x σ H9 NI hI hi ⟨v6,rfl,s9,e9,h19,h39,h49⟩;rw [<- List.map_reverse,List.getElem?_map] at hi;obtain ⟨v,hv,rfl⟩:=Option.map_eq_some_iff.mp hi;have et:kk.reverse.take (i+1)=kk.reverse.take i++[v]:=(by rw [List.take_succ,hv];rfl);have wlen:(ws'++kk.reverse.take i).length<=100:=by
         rw [List.length_append,List.length_take,List.length_reverse];omega
       walk_at "rd";refine ⟨tyL h49,pN h49 (bG (by rw [List.length_map];omega)) (hI _ _ ⟨_,rfl,s9.put n40 _,?_,?_,?_,?_⟩)⟩
       . rw [ao n84.symm];exact e9
       . rw [ao n14];exact h19
       . rw [ao n34];exact h39
       . rw [ah,et,<- List.append_assoc,List.map_append (l₁:=ws'++kk.reverse.take i)];rfl
     . rintro σ H9 ⟨v6,rfl,s9,e9,h19,h39,h49⟩;rw [List.length_map,show kk.length=kk.reverse.length by rw [List.length_reverse],List.take_length] at h49;refine hN _ _ _ ?_ ⟨ks++kk,ws'++kk.reverse,pl++[q],_,_,rfl,rfl,s9,h19,h39,h49,J2.perm (List.Perm.append_left _ kk.reverse_perm.symm),?_,?_⟩
       . rw [List.length_append,List.length_append,List.length_append,List.length_reverse];simp only [List.length_cons,List.length_nil];omega
       . have p1:(pl++[q]++(ws'++kk.reverse)).Perm (pl++(ws'++[q])++kk):=by
           rw [List.append_assoc,List.append_assoc];refine List.Perm.append_left _ ?_;rw [<- List.append_assoc];exact List.Perm.append (List.perm_append_comm) kk.reverse_perm
         exact p1.trans (List.Perm.append_right _ pe)
       . rw [<- ep,List.reverse_append,List.reverse_append,List.reverse_reverse,List.reverse_singleton,List.singleton_append,List.flatMap_cons,pq,List.flatMap_append];simp
/-- the places of a row with the ones ahead of them,from its end -/
def L8 (par:Int->Int) (v:Int):List V:=[.int v,.int (par v)]
abbrev PairsAt (H:Hp) (par:Int->Int):List Addr->List Int->Prop:=Paired fun q v=>H q=some (.tup (L8 par v))
theorem PairsAt.same {H H':Hp} {par:Int->Int} {qs:List Addr} {vs:List Int} (e:Same H H') (h:PairsAt H par qs vs):PairsAt H' par qs vs:=Paired.imp' (fun q v x=>e q _ x) h
theorem PairsAt.get {H:Hp} {par:Int->Int}:∀ {ps:List Addr} {rs:List Int} {i:Nat} {x:V},PairsAt H par ps rs->(ps.map V.ref)[i]?=some x->∃ p r,x=.ref p/\ps[i]?=some p/\rs[i]?=some r/\H p=some (.tup (L8 par r))
 | _,_,i,x,.nil,e=>by simp at e
 | _,_,0,x,.cons (a:=p) (b:=r) h hs,e=>⟨p,r,by simpa using e.symm,by simp,by simp,h⟩
 | a::l1,_,i+1,x,.cons h hs,e=>by
   have e':(List.map V.ref l1)[i]?=some x:=by simpa using e
   obtain ⟨p,r,h1,h2,h3,h4⟩:=PairsAt.get hs e';exact ⟨p,r,h1,by simpa using h2,by simpa using h3,h4⟩
theorem PairsAt.snoc {H:Hp} {par:Int->Int} {q:Addr} {v:Int} (e:H q=some (.tup (L8 par v))):∀ {qs:List Addr} {vs:List Int},PairsAt H par qs vs->PairsAt H par (qs++[q]) (vs++[v])
 | _,_,.nil=>.cons e .nil
 | _,_,.cons x xs=>.cons x (PairsAt.snoc e xs)
def xC (T:Txt K mg):Sp:=fun vs H Q E=>∃ (p t:Addr) (m:Int) (ps:List Addr) (rs:List Road) (r:Int),vs=[.ref p,.int r]/\WebAt T.Web H p m t ps rs /\
 (0<=r->r<m->∃ par dep,Rooted m rs r par dep/\∀ l qs tl H',bj m rs r par dep r=r::tl->H l=none->Same H H'->H' l=some (.lst (qs.map V.ref))->PairsAt H' par qs tl.reverse->Order m r par tl->Q (.ref l) H')/\(¬ (0<=r/\r<m)->E (.ref T.NoPlace) none H)
abbrev cT:Stmt:=top 24
theorem Ev:FnScope ["web","r","nearer"] ["web","r"] (aa cT):=FnScope.of (by kernel_rfl)
theorem wL:NmL (aa cT) "web":=.of (by kernel_rfl)
theorem zX:NmC (aa cT) "r":=.of (by kernel_rfl)
theorem AJ:NmC (aa cT) "nearer":=.of (by kernel_rfl)
theorem rT:NmG (aa cT) "ahead":=.of (by kernel_rfl)
theorem yc:NmG (aa cT) "reversed":=.of (by kernel_rfl)
theorem uq:NmG (aa cT) "down":=.of (by kernel_rfl)
theorem Ng (T:Txt K mg) (hq:aQ (CXe P w)) {f:Addr} {fd:FuncData} (D:Df K mg "inward" cT ["web","r"] f fd) {fM:Addr} {jG:FuncData} (dG:Df K mg "ahead" cN ["web","r"] fM jG) (G_ahead:FnOk P w K mg base (CXe P w) 5 fM jG ["web","r"] (vV T)) {lg:Addr} {uE:FuncData} (jN:Df K mg "down" dE ["web","r"] lg uE) (G_down:FnOk P w K mg base (CXe P w) 6 lg uE ["web","r"] (Dg T)):FnOk P w K mg base (CXe P w) 7 f fd ["web","r"] (xC T):=by
 refine D.F.okX Ev (fun vs H Q E h=>?_) (fun cdv A outer s H vs Q E hr h=>?_)
 . obtain ⟨p,t,m,ps,rs,r,rfl,_⟩:=h
   rfl
 . obtain ⟨p,t,m,ps,rs,r,rfl,W,k,e⟩:=h;have g:=W.go;have m24:=g.m24;refine ⟨_,(aj (aw (i:=2) Ev.nd rfl (Or.inr AJ.l) (au G_ahead (hr.mono (by decide)) rT.g dG.m dG.F.kp dG.b .nil fJ (ag (pvl 0 wL) (ag (pvc 1 zX) ak)) (hdb:=rT.d))) (ap (aO (eW rfl (gr (Nc:=["place","nearer","r"]) 1 [2,1] (by decide +kernel) rfl (by decide +kernel) rfl (by show ∀ (y:Str × NameKind),y∈_->y.2=NameKind.free->(aa cT).names.lookup y.1=some NameKind.cell;decide +kernel) rfl (fun _ h=>dA h) (fun i hi=>match i,hi with|0,_=>⟨"nearer",2,rfl,rfl,rfl,by decide +kernel⟩|1,_=>⟨"r",1,rfl,rfl,rfl,by decide +kernel⟩|i+2,hi=>absurd hi (by show ¬ i+2<2;omega))) (rG yc.g T.reversed (au G_down (hr.mono (by decide)) uq.g jN.m jN.F.kp jN.b .nil fJ (ag (pvl 0 wL) (ag (pvc 1 zX) ak)) (hdb:=uq.d))) (fun _ _ _ _=>(ax (i:=0) (show (["place","nearer","r"]:List Str).Nodup from by decide +kernel) rfl (Or.inl rfl))) (fun _ _ _ _=>(uA (aX sA (pv 0) (pv 2) (bc _)))) (fun _ _ _ _=>(eL (ag (pv 0) (ag (aH (oH K rfl) (pv 1) (pv 0) (fun _ _=>rfl)) ak)))))))),?_⟩;rw [show L2.start ["web","r","nearer"] [V.ref p,V.int r]=[some (V.ref p),some (V.int r),none] from rfl];walk_at "rd";refine ex6 p t m ps rs r ?_;refine an4 rfl W (fun r0 r1=>?_) e;obtain ⟨par,dep,R,k⟩:=k r0 r1;refine ⟨par,dep,R,fun l1 H1 n1 s1 e1=>?_⟩;refine ex6 p t m ps rs r ?_;refine an4 rfl (W.same s1) (fun _ _=>⟨par,dep,R,fun l2 H2 n2 s2 e2 nd al=>?_⟩) (fun z=>absurd ⟨r0,r1⟩ z);obtain ⟨tl,et,O⟩:=CI g R r0 r1 nd al;have ll:=Q0 g R r0 r1;rw [et] at e2 ll;rw [List.length_cons] at ll;refine ⟨l2,rfl,_,SqL.of e2,fun pc npc=>?_⟩;have e12:=s2 _ _ e1;have s12:=s1.trans s2;have npc0:=s12.free npc;refine Q8 (K:=K) (xs:=(r::tl).map V.int) (fun i zs σ H3=>Same H2 H3/\H3 pc=some (.lst zs)/\(∃ qs:List Addr,zs=qs.map V.ref/\PairsAt H3 par qs (tl.reverse.take i))/\∃ v,σ=[v,some (V.ref l1),some (V.int r)]) ⟨Same.new _ npc,ah,⟨[],rfl,.nil⟩,_,rfl⟩ (fun i zs σ H3 _ z=>SqL.of (z.1 _ _ e2)) ?_ ?_
   . rintro i x zs σ H3 N hN hx ⟨s3,e3,⟨qs,rfl,pa⟩,v,rfl⟩;rw [<- List.map_reverse,List.reverse_cons,List.getElem?_map] at hx;obtain ⟨y,gy,rfl⟩:=Option.map_eq_some_iff.mp hx;have il:=(List.getElem?_eq_some_iff.mp gy).1;rw [List.length_append,List.length_reverse] at il;have ql:qs.length=(tl.reverse.take i).length:=Paired.length pa;rw [List.length_take,List.length_reverse] at ql;walk_at "rd";by_cases c:i<tl.length
     . rw [List.getElem?_append_left (by rw [List.length_reverse];exact c)] at gy;have ym:y∈tl:=List.mem_reverse.mp (List.mem_of_getElem? gy);have yr:=O.rng y ym;rw [if_pos (O.ne ym)];have gp:atI (mB m r par) y=some (V.int (par y)):=by
         have ef:Pb.front r par y=V.int (par y):=(by unfold Pb.front;rw [if_neg (O.ne ym)]);rw [<- ef];exact cL yr.1 (AN yr.1 yr.2)
       refine ixL (s3 _ _ e12) gp ⟨aJ (by simp),fun q nq=>?_⟩;have s4:=Same.new (.tup [V.int y,V.int (par y)]) nq;have nqp:q≠pc:=fun z=>by rw [z,e3] at nq;cases nq
       refine ⟨s4 _ _ e3,bG (by rw [List.length_map];omega),hN _ _ _ ⟨(s3.trans s4).put npc _,ah,⟨qs++[q],by rw [List.map_append];rfl,?_⟩,_,rfl⟩⟩;rw [List.take_succ,gy];refine PairsAt.snoc (by rw [ao nqp,ah];rfl) ?_;exact Paired.imp' (fun a b h=>by
         rw [ao (dh h e3 (by intro z;cases z)),ao (ay h nq)];exact h) pa
     . have ei:i=tl.reverse.length:=(by rw [List.length_reverse];simp at il;omega);rw [ei,List.getElem?_append_right (Nat.le_refl _),Nat.sub_self] at gy;cases gy;rw [if_neg (fun z=>z rfl)];refine hN _ _ _ ⟨s3,e3,⟨qs,rfl,?_⟩,_,rfl⟩;rw [List.take_of_length_le (by omega)] at pa ⊢;exact pa
   . rintro zs σ H3 ⟨s3,e3,⟨qs,rfl,pa⟩,v,rfl⟩;rw [List.take_of_length_le (by rw [List.length_map,List.length_reverse,List.length_cons];omega)] at pa;exact k pc qs tl H3 et npc0 (s12.trans s3) e3 pa O
def Dz (T:Txt K mg):Sp:=fun vs H Q E=>∃ (p t:Addr) (m:Int) (ps:List Addr) (rs:List Road) (a b:Int),vs=[.ref p,.int a,.int b]/\WebAt T.Web H p m t ps rs /\
 (∀ k,0<=a->a<m->0<=b->b<m->aZ rs a b=some k->Q (.int k) H)/\(¬ ((0<=a/\a<m)/\(0<=b/\b<m))->E (.ref T.NoPlace) none H)/\(0<=a->a<m->0<=b->b<m->aZ rs a b=none->E (.ref T.NoRoad) none H)
abbrev dP:Stmt:=top 11
theorem ua:FnScope ["web","a","b","one","other","there","back"] ["web","a","b"] (aa dP):=FnScope.of (by kernel_rfl)
theorem tI:NmL (aa dP) "web":=.of (by kernel_rfl)
theorem xi:NmL (aa dP) "a":=.of (by kernel_rfl)
theorem xE:NmL (aa dP) "b":=.of (by kernel_rfl)
theorem tL:NmL (aa dP) "one":=.of (by kernel_rfl)
theorem pp:NmL (aa dP) "other":=.of (by kernel_rfl)
theorem wN:NmL (aa dP) "there":=.of (by kernel_rfl)
theorem xh:NmL (aa dP) "back":=.of (by kernel_rfl)
theorem gg:NmG (aa dP) "check_place":=.of (by kernel_rfl)
theorem uh:NmG (aa dP) "NoRoad":=.of (by kernel_rfl)
theorem SW (T:Txt K mg) (hq:aQ (CXe P w)) {f:Addr} {fd:FuncData} (D:Df K mg "toll" dP ["web","a","b"] f fd) {bg:Addr} {b4:FuncData} (aB:Df K mg "check_place" bq ["web","number"] bg b4) (G_check_place:FnOk P w K mg base (CXe P w) 2 bg b4 ["web","number"] (g9 T)):FnOk P w K mg base (CXe P w) 3 f fd ["web","a","b"] (Dz T):=by
 refine D.F.okX ua (fun vs H Q E h=>?_) (fun cdv A outer s H vs Q E hr h=>?_)
 . obtain ⟨p,t,m,ps,rs,a,b,rfl,_⟩:=h
   rfl
 . obtain ⟨p,t,m,ps,rs,a,b,rfl,W,k,e1,e2⟩:=h;obtain ⟨dx,ob⟩:=W.ob;refine ⟨_,(aj (bw (au G_check_place (hr.mono (by decide)) gg.g aB.m aB.F.kp aB.b .nil fJ (ag (pvl 0 tI) (ag (pvl 1 xi) ak)) (hdb:=gg.d))) (aj (bw (au G_check_place (hr.mono (by decide)) gg.g aB.m aB.F.kp aB.b .nil fJ (ag (pvl 0 tI) (ag (pvl 2 xE) ak)) (hdb:=gg.d))) (aj (cq PassesOwn.leaving rfl (xq (dR  (pvl 0 tI) rfl)) (hV (n:=4) rfl (aF (ax (i:=3) ua.nd rfl (Or.inl tL.l)) (aF (ax (i:=4) ua.nd rfl (Or.inl pp.l)) (aF (ax (i:=5) ua.nd rfl (Or.inl wN.l)) (aF (ax (i:=6) ua.nd rfl (Or.inl xh.l)) eX))))) (aj (bT (PW.pt (Cu (aX fG (pvl 3 tL) (pvl 1 xi) (bc _)) (y3 (aX fG (pvl 4 pp) (pvl 2 xE) (bc _))))) (ap (aO (pvl 5 wN))) bp) (ap (bT (PW.pt (Cu (aX fG (pvl 3 tL) (pvl 2 xE) (bc _)) (y3 (aX fG (pvl 4 pp) (pvl 1 xi) (bc _))))) (ap (aO (pvl 6 xh))) bp)))) (ap (A3 T.Rj rfl DP uh.g T.Ps (ag GW ak) (hdb:=uh.d)))))),?_⟩;rw [show L2.start ["web","a","b","one","other","there","back"] [V.ref p,V.int a,V.int b]=[some (V.ref p),some (V.int a),some (V.int b),none,none,none,none] from rfl];walk_at "rd";refine ⟨p,t,m,ps,rs,a,rfl,W,fun a0 a1=>?_,fun z=>e1 fun w=>z w.1⟩;refine ⟨p,t,m,ps,rs,b,rfl,W,fun b0 b1=>?_,fun z=>e1 fun w=>z w.2⟩;refine ⟨T.Web,dx,_,ob,T.kI,T.n_roads,_,zO m t,t,rfl,⟨_,SqT.of W.tu⟩,?_⟩;have hlen:ps.length=rs.length:=Paired.length W.ro;refine GM (K:=K) (xs:=ps.map V.ref) (fun i σ H2=>H2=H/\aZ (rs.take i) a b=none/\∃ v1 v2 v3 v4,σ=[some (V.ref p),some (V.int a),some (V.int b),v1,v2,v3,v4]) ⟨rfl,rfl,_,_,_,_,rfl⟩ (fun i σ H2 _ z=>by rw [z.1];exact SqT.of W.tu) ?_ ?_
   . rintro i x σ H2 N hN hx ⟨rfl,hno,v1,v2,v3,v4,rfl⟩;obtain ⟨q,r,rfl,h1,h2,h3⟩:=W.ro.get hx;have et:rs.take (i+1)=rs.take i++[r]:=(by rw [List.take_succ,h2];rfl);have split:aZ rs a b=(aZ (rs.take i) a b).or ((eF a b r).or (aZ (rs.drop (i+1)) a b)):=by
       have:rs=rs.take i++r::rs.drop (i+1):=by
         have hil:i<rs.length:=(List.getElem?_eq_some_iff.mp h2).1;have e:rs[i]=r:=(by rw [List.getElem?_eq_getElem hil] at h2;exact Option.some.inj h2);rw [<- e,List.getElem_cons_drop,List.take_append_drop]
       conv=>lhs;rw [this]
       unfold aZ;rw [List.findSome?_append,List.findSome?_cons];cases eF a b r <;> rfl
     rw [hno,Option.none_or] at split;walk_at "rd";refine ⟨_,SqT.of h3,rfl,_,_,rfl,_,_,rfl,_,_,rfl,_,_,rfl,rfl,?_⟩;walk_at "rd";have next:eF a b r=none->N [some (V.ref p),some (V.int a),some (V.int b),some (V.int r.a),some (V.int r.b),some (V.int r.t),some (V.int r.u)] H2:=fun z=>hN _ _ ⟨rfl,by
       rw [et];unfold aZ at hno ⊢;rw [List.findSome?_append,hno,List.findSome?_cons,z]
       rfl,_,_,_,_,rfl⟩
     have got:∀ v,eF a b r=some v->aZ rs a b=some v:=fun v z=>by rw [split,z];rfl
     unfold eF at next got;split
     . rename_i c1
       split
       . rename_i c2
         exact k _ a0 a1 b0 b1 (got _ (by rw [if_pos ⟨c1,c2⟩]))
       . rename_i c2
         split
         . rename_i c3
           split
           . rename_i c4
             exact k _ a0 a1 b0 b1 (got _ (by rw [if_neg (fun z=>c2 z.2),if_pos ⟨c3,c4⟩]))
           . rename_i c4
             exact next (by rw [if_neg (fun z=>c2 z.2),if_neg (fun z=>c4 z.2)])
         . rename_i c3
           exact next (by rw [if_neg (fun z=>c2 z.2),if_neg (fun z=>c3 z.1)])
     . rename_i c1
       split
       . rename_i c3
         split
         . rename_i c4
           exact k _ a0 a1 b0 b1 (got _ (by rw [if_neg (fun z=>c1 z.1),if_pos ⟨c3,c4⟩]))
         . rename_i c4
           exact next (by rw [if_neg (fun z=>c1 z.1),if_neg (fun z=>c4 z.2)])
       . rename_i c3
         exact next (by rw [if_neg (fun z=>c1 z.1),if_neg (fun z=>c3 z.1)])
   . rintro σ H2 ⟨rfl,hno,v1,v2,v3,v4,rfl⟩;rw [List.length_map,hlen,List.take_length] at hno;walk_at "rd";exact ⟨by decide,e2 a0 a1 b0 b1 hno⟩
def AI (T:Txt K mg):Sp:=fun vs H Q _=>∃ (p b t:Addr) (c:Bool) (m:Int) (ps:List Addr) (rs:List Road) (xs:List Int) (v u k:Int),vs=[.ref p,.ref b,.int v,.int u]/\WebAt T.Web H p m t ps rs/\SqX K c H b (xs.map V.int)/\(0<=v/\v<m/\v<xs.length)/\(0<=u/\u<m)/\aZ rs v u=some k/\k<=1000000/\2<=k/\Q (.int (xs.getD v.toNat 0*k)) H
abbrev eU:Stmt:=top 26
theorem Qg:FnScope ["web","weights","place","front"] ["web","weights","place","front"] (aa eU):=FnScope.of (by kernel_rfl)
theorem FV:NmL (aa eU) "web":=.of (by kernel_rfl)
theorem AE:NmL (aa eU) "weights":=.of (by kernel_rfl)
theorem t9:NmL (aa eU) "place":=.of (by kernel_rfl)
theorem Dx:NmL (aa eU) "front":=.of (by kernel_rfl)
theorem wI:NmG (aa eU) "toll":=.of (by kernel_rfl)
theorem Pj (T:Txt K mg) (hq:aQ (CXe P w)) {f:Addr} {fd:FuncData} (D:Df K mg "borne" eU ["web","weights","place","front"] f fd) {kX:Addr} {uw:FuncData} (jJ:Df K mg "toll" dP ["web","a","b"] kX uw) (G_toll:FnOk P w K mg base (CXe P w) 3 kX uw ["web","a","b"] (Dz T)):FnOk P w K mg base (CXe P w) 4 f fd ["web","weights","place","front"] (AI T):=by
 refine D.F.okX Qg (fun vs H Q E h=>?_) (fun cdv A outer s H vs Q E hr h=>?_)
 . obtain ⟨p,b,t,c,m,ps,rs,xs,v,u,k,rfl,_⟩:=h
   rfl
 . obtain ⟨p,b,t,c,m,ps,rs,xs,v,u,kk,rfl,W,hb,vr,ur,hk,k1,k2,k⟩:=h;refine ⟨_,(ap (aO (aq dU (aH (TD c) (pvl 1 AE) (pvl 2 t9) (fun _ _=>rfl)) (au G_toll (hr.mono (by decide)) wI.g jJ.m jJ.F.kp jJ.b .nil fJ (ag (pvl 0 FV) (ag (pvl 2 t9) (ag (pvl 3 Dx) ak))) (hdb:=wI.d))))),?_⟩;rw [show L2.start ["web","weights","place","front"] [V.ref p,V.ref b,V.int v,V.int u]=[some (V.ref p),some (V.ref b),some (V.int v),some (V.int u)] from rfl];walk_at "rd";refine ixX hb (atG vr.1 vr.2.2) ?_;refine ⟨p,t,m,ps,rs,v,u,rfl,W,fun k' _ _ _ _ h=>?_,fun z=>absurd ⟨⟨vr.1,vr.2.1⟩,ur⟩ z,fun _ _ _ _ z=>by rw [hk] at z;cases z⟩;rw [hk] at h;cases h;exact ⟨_,rfl,_,rfl,.inr ⟨by omega,by omega⟩,k⟩
def sY (T:Txt K mg):Sp:=fun vs H Q _=>∃ (p b t:Addr) (m:Int) (ps:List Addr) (rs:List Road) (xs:List Int) (v u k:Int),vs=[.ref p,.ref b,.int v,.int u]/\WebAt T.Web H p m t ps rs/\SqL K H b (xs.map V.int)/\(xs.length:Int)=m/\(0<=v/\v<m)/\(0<=u/\u<m)/\aZ rs v u=some k/\k<=1000000/\2<=k/\Q (.bl (decide (xs.getD v.toNat 0*k=xs.getD u.toNat 0))) H
abbrev cA:Stmt:=top 30
theorem Je:FnScope ["web","weights","place","front"] ["web","weights","place","front"] (aa cA):=FnScope.of (by kernel_rfl)
theorem Cs:NmL (aa cA) "web":=.of (by kernel_rfl)
theorem m8:NmL (aa cA) "weights":=.of (by kernel_rfl)
theorem zl:NmL (aa cA) "place":=.of (by kernel_rfl)
theorem qi:NmL (aa cA) "front":=.of (by kernel_rfl)
theorem qa:NmG (aa cA) "borne":=.of (by kernel_rfl)
theorem IA (T:Txt K mg) (hq:aQ (CXe P w)) {f:Addr} {fd:FuncData} (D:Df K mg "is_heavy" cA ["web","weights","place","front"] f fd) {jj:Addr} {rp:FuncData} (ia:Df K mg "borne" eU ["web","weights","place","front"] jj rp) (G_borne:FnOk P w K mg base (CXe P w) 4 jj rp ["web","weights","place","front"] (AI T)):FnOk P w K mg base (CXe P w) 5 f fd ["web","weights","place","front"] (sY T):=by
 refine D.F.okX Je (fun vs H Q E h=>?_) (fun cdv A outer s H vs Q E hr h=>?_)
 . obtain ⟨p,b,t,m,ps,rs,xs,v,u,k,rfl,_⟩:=h
   rfl
 . obtain ⟨p,b,t,m,ps,rs,xs,v,u,kk,rfl,W,hb,xl,vr,ur,hk,k1,k2,k⟩:=h;refine ⟨_,(ap (aO (CW fG (au G_borne (hr.mono (by decide)) qa.g ia.m ia.F.kp ia.b .nil fJ (ag (pvl 0 Cs) (ag (pvl 1 m8) (ag (pvl 2 zl) (ag (pvl 3 qi) ak)))) (hdb:=qa.d)) (aH aM (pvl 1 m8) (pvl 3 qi) (fun _ _=>rfl)) (bc _)))),?_⟩;rw [show L2.start ["web","weights","place","front"] [V.ref p,V.ref b,V.int v,V.int u]=[some (V.ref p),some (V.ref b),some (V.int v),some (V.int u)] from rfl];walk_at "rd";refine ⟨p,b,t,true,m,ps,rs,xs,v,u,kk,rfl,W,hb,⟨vr.1,vr.2,by omega⟩,ur,hk,k1,k2,?_⟩;refine ixS hb (atG ur.1 (by omega)) ?_;have e:decide (V.int (xs.getD v.toNat 0*kk)=V.int (xs.getD u.toNat 0))=decide (xs.getD v.toNat 0*kk=xs.getD u.toNat 0):=by simp
   rw [e];exact ⟨rfl,k⟩
def lX (T:Txt K mg):Sp:=fun vs H Q E=>∃ (p t:Addr) (m:Int) (ps:List Addr) (rs:List Road) (r:Int),vs=[.ref p,.int r]/\WebAt T.Web H p m t ps rs /\
 (0<=r->r<m->∃ par dep,Rooted m rs r par dep/\∀ l H',H l=none->Same H H'->H' l=some (.lst ((ic m rs r par dep).map V.int))->Q (.ref l) H')/\(¬ (0<=r/\r<m)->∀ H',Same H H'->E (.ref T.NoPlace) none H')
abbrev aN:Stmt:=top 28
theorem iJ:FnScope ["web","r","weights","place","front"] ["web","r"] (aa aN):=FnScope.of (by kernel_rfl)
theorem iz:NmL (aa aN) "web":=.of (by kernel_rfl)
theorem xn:NmL (aa aN) "r":=.of (by kernel_rfl)
theorem cD:NmL (aa aN) "weights":=.of (by kernel_rfl)
theorem kP:NmL (aa aN) "place":=.of (by kernel_rfl)
theorem eA:NmL (aa aN) "front":=.of (by kernel_rfl)
theorem ki:NmG (aa aN) "inward":=.of (by kernel_rfl)
theorem iw:NmG (aa aN) "max":=.of (by kernel_rfl)
theorem kZ:NmG (aa aN) "borne":=.of (by kernel_rfl)
theorem AH (T:Txt K mg) (hq:aQ (CXe P w)) {f:Addr} {fd:FuncData} (D:Df K mg "least_weights" aN ["web","r"] f fd) {jj:Addr} {rp:FuncData} (ia:Df K mg "borne" eU ["web","weights","place","front"] jj rp) (G_borne:FnOk P w K mg base (CXe P w) 4 jj rp ["web","weights","place","front"] (AI T)) {gR:Addr} {pb:FuncData} (fV:Df K mg "inward" cT ["web","r"] gR pb) (G_inward:FnOk P w K mg base (CXe P w) 7 gR pb ["web","r"] (xC T)):FnOk P w K mg base (CXe P w) 8 f fd ["web","r"] (lX T):=by
 refine D.F.okX iJ (fun vs H Q E h=>?_) (fun cdv A outer s H vs Q E hr h=>?_)
 . obtain ⟨p,t,m,ps,rs,r,rfl,_⟩:=h
   rfl
 . obtain ⟨p,t,m,ps,rs,r,rfl,W,k,e⟩:=h;have g:=W.go;have m1:=g.m1;have m24:=g.m24;obtain ⟨dx,ob⟩:=W.ob;refine ⟨_,(aj (aw (i:=2) iJ.nd rfl (Or.inl cD.l) (aq yg (cg (ag am ak)) (dR  (pvl 0 iz) rfl))) (aj (cq PassesOwn.leaving rfl (eY (au G_inward (hr.mono (by decide)) ki.g fV.m fV.F.kp fV.b .nil fJ (ag (pvl 0 iz) (ag (pvl 1 xn) ak)) (hdb:=ki.d))) (hV (n:=2) rfl (aF (ax (i:=3) iJ.nd rfl (Or.inl kP.l)) (aF (ax (i:=4) iJ.nd rfl (Or.inl eA.l)) eX))) (ap (lf (cz (Ei rfl) iw.g T.max MR (ag (aH aM (pvl 2 cD) (pvl 4 eA) (fun _ _=>rfl)) (ag (au G_borne (hr.mono (by decide)) kZ.g ia.m ia.F.kp ia.b .nil fJ (ag (pvl 0 iz) (ag (pvl 2 cD) (ag (pvl 3 kP) (ag (pvl 4 eA) ak)))) (hdb:=kZ.d)) ak)) (hn:=iw.n) (hdb:=iw.d)) (rJ (pvl 2 cD) (pvl 4 eA) lK)))) (ap (aO (pvl 2 cD))))),?_⟩;rw [show L2.start ["web","r","weights","place","front"] [V.ref p,V.int r]=[some (V.ref p),some (V.int r),none,none,none] from rfl];walk_at "rd";refine ⟨aJ (by simp),fun l0 n0=>?_⟩;have s0:=Same.new (.lst [V.int 1]) n0;refine ⟨T.Web,dx,_,s0 _ _ ob,T.kI,T.n_many,_,my m t,?_⟩;refine ⟨l0,m,_,rfl,rfl,ah,by omega,by omega,aJ (by simp;omega),fun l n1=>?_⟩;rw [Mw];have s1:=s0.trans (Same.new (.lst (List.replicate m.toNat (V.int 1))) n1);have nl:=s0.free n1;have e1:upd (upd H l0 (.lst [V.int 1])) l (.lst (List.replicate m.toNat (V.int 1))) l=some (.lst ((List.replicate m.toNat (1:Int)).map V.int)):=by rw [ah,List.map_replicate]
   generalize upd (upd H l0 (.lst [V.int 1])) l (.lst (List.replicate m.toNat (V.int 1)))=H1 at s1 e1 ⊢;refine ex6 p t m ps rs r ?_;refine an4 rfl (W.same s1) (fun r0 r1=>?_) (fun z=>e z H1 s1);obtain ⟨par,dep,R,k⟩:=k r0 r1;refine ⟨par,dep,R,fun l2 qs tl H2 _ n2 s2 e2 pa O=>?_⟩;have nll:l2≠l:=fun z=>by rw [z,e1] at n2;cases n2
   refine ⟨l2,rfl,⟨_,SqL.of e2⟩,?_⟩;have ql:qs.length=tl.reverse.length:=Paired.length pa;have st:Sofo mx m rs r par dep (fun _=>1) (bor rs par) [] (List.replicate m.toNat (1:Int)):=Sofo.nil (by rw [List.length_replicate];omega) fun v v0 v1=>by
     rw [List.getD,List.getElem?_replicate_of_lt (by omega)];rfl
   refine pi (K:=K) (xs:=qs.map V.ref) (fun i σ H3=>Same H H3/\H3 l2=some (.lst (qs.map V.ref))/\PairsAt H3 par qs tl.reverse/\∃ (cs:List Int) (v4 v5:Option V),H3 l=some (.lst (cs.map V.int))/\Sofo mx m rs r par dep (fun _=>1) (bor rs par) (tl.drop (tl.length - i)) cs/\σ=[some (V.ref p),some (V.int r),some (V.ref l),v4,v5]) ⟨s1.trans s2,e2,pa,_,_,_,s2 _ _ e1,by rw [Nat.sub_zero,List.drop_length];exact st,rfl⟩ (fun i σ H3 _ z=>SqL.of z.2.1) ?_ ?_
   . rintro i x σ H3 N BB hBB hN hx ⟨s3,e3,pa3,cs,v4,v5,c3,so,rfl⟩;refine hBB _ _ ?_;obtain ⟨q,v,rfl,hq,hv,eq⟩:=pa3.get hx;obtain ⟨⟨vr,vn⟩,ev,so'⟩:=O.turnF y4 g R so hv;have u:=R.up v vr.1 vr.2 vn;obtain ⟨kk,hk,k0,k1⟩:=mq g R vr.1 vr.2 vn;have cl:=so.len;walk_at "rd";refine ⟨_,SqT.of eq,rfl,_,_,rfl,_,_,rfl,rfl,?_⟩;refine ixL c3 (atG u.1.1 (by omega)) ?_;refine ⟨p,l,t,true,m,ps,rs,cs,v,par v,kk,rfl,W.same s3,SqL.of c3,⟨vr.1,vr.2,by omega⟩,u.1,hk,k1,k0,?_⟩;refine ⟨_,_,⟨rfl,rfl⟩,DZ c3 u.1.1 (by rw [List.length_map];omega) (hN _ _ ⟨s3.put nl _,?_,?_,rX mx par (bor rs par) cs v,_,_,?_,so',rfl⟩)⟩
     . rw [ao nll];exact e3
     . exact Paired.imp' (fun a b h=>by rw [ao (dh h c3 (by intro z;cases z))];exact h) pa3
     . rw [ah,<- List.map_set];unfold rX bor mx;rw [hk]
       rfl
   . rintro BB σ H3 hBB ⟨s3,e3,pa3,cs,v4,v5,c3,so,rfl⟩;refine hBB _ _ ?_;rw [List.length_map,ql,List.length_reverse,Nat.sub_self,List.drop_zero] at so;rw [O.doneF y4 g R so] at c3;walk_at "rd";exact k l H3 nl s3 c3
def Bk (T:Txt K mg):Sp:=fun vs H Q E=>∃ (p t:Addr) (m:Int) (ps:List Addr) (rs:List Road) (r:Int),vs=[.ref p,.int r]/\WebAt T.Web H p m t ps rs /\
 (0<=r->r<m->∃ par dep,Rooted m rs r par dep/\∀ tl l H',bj m rs r par dep r=r::tl->Order m r par tl->H l=none->Same H H'->H' l=some (.lst (chL m (bea m rs r par dep tl)))->Q (.ref l) H')/\(¬ (0<=r/\r<m)->∀ H',Same H H'->E (.ref T.NoPlace) none H')
abbrev bR:Stmt:=top 29
theorem mV:FnScope ["web","r","weights","chosen","place","front"] ["web","r"] (aa bR):=FnScope.of (by kernel_rfl)
theorem jZ:NmL (aa bR) "web":=.of (by kernel_rfl)
theorem xQ:NmL (aa bR) "r":=.of (by kernel_rfl)
theorem pd:NmL (aa bR) "weights":=.of (by kernel_rfl)
theorem kG:NmL (aa bR) "chosen":=.of (by kernel_rfl)
theorem lC:NmL (aa bR) "place":=.of (by kernel_rfl)
theorem lO:NmL (aa bR) "front":=.of (by kernel_rfl)
theorem jS:NmG (aa bR) "least_weights":=.of (by kernel_rfl)
theorem xa:NmG (aa bR) "reversed":=.of (by kernel_rfl)
theorem p7:NmG (aa bR) "inward":=.of (by kernel_rfl)
theorem nu:NmG (aa bR) "is_heavy":=.of (by kernel_rfl)
theorem LV (T:Txt K mg) (hq:aQ (CXe P w)) {f:Addr} {fd:FuncData} (D:Df K mg "bearers" bR ["web","r"] f fd) {gR:Addr} {pb:FuncData} (fV:Df K mg "inward" cT ["web","r"] gR pb) (G_inward:FnOk P w K mg base (CXe P w) 7 gR pb ["web","r"] (xC T)) {eJ:Addr} {kT:FuncData} (dB:Df K mg "is_heavy" cA ["web","weights","place","front"] eJ kT) (G_is_heavy:FnOk P w K mg base (CXe P w) 5 eJ kT ["web","weights","place","front"] (sY T)) {b9:Addr} {fW:FuncData} (bN:Df K mg "least_weights" aN ["web","r"] b9 fW) (G_least_weights:FnOk P w K mg base (CXe P w) 8 b9 fW ["web","r"] (lX T)):FnOk P w K mg base (CXe P w) 9 f fd ["web","r"] (Bk T):=by
 refine D.F.okX mV (fun vs H Q E h=>?_) (fun cdv A outer s H vs Q E hr h=>?_)
 . obtain ⟨p,t,m,ps,rs,r,rfl,_⟩:=h
   rfl
 . obtain ⟨p,t,m,ps,rs,r,rfl,W,k,e⟩:=h;have g:=W.go;have m1:=g.m1;have m24:=g.m24;obtain ⟨dx,ob⟩:=W.ob;refine ⟨_,(aj (aw (i:=2) mV.nd rfl (Or.inl pd.l) (au G_least_weights (hr.mono (by decide)) jS.g bN.m bN.F.kp bN.b .nil fJ (ag (pvl 0 jZ) (ag (pvl 1 xQ) ak)) (hdb:=jS.d))) (aj (aw (i:=3) mV.nd rfl (Or.inl kG.l) (aq yg (cg (ag BT ak)) (dR  (pvl 0 jZ) rfl))) (aj (cq PassesOwn.leaving rfl (rG xa.g T.reversed (au G_inward (hr.mono (by decide)) p7.g fV.m fV.F.kp fV.b .nil fJ (ag (pvl 0 jZ) (ag (pvl 1 xQ) ak)) (hdb:=p7.d))) (hV (n:=2) rfl (aF (ax (i:=4) mV.nd rfl (Or.inl lC.l)) (aF (ax (i:=5) mV.nd rfl (Or.inl lO.l)) eX))) (ap (bT (ul (au G_is_heavy (hr.mono (by decide)) nu.g dB.m dB.F.kp dB.b .nil fJ (ag (pvl 0 jZ) (ag (pvl 2 pd) (ag (pvl 4 lC) (ag (pvl 5 lO) ak)))) (hdb:=nu.d))) (ap (lf (pvl 4 lC) (rJ (pvl 3 kG) (pvl 5 lO) lK))) bp))) (ap (aO (pvl 3 kG)))))),?_⟩;rw [show L2.start ["web","r","weights","chosen","place","front"] [V.ref p,V.int r]=[some (V.ref p),some (V.int r),none,none,none,none] from rfl];walk_at "rd";refine ex6 p t m ps rs r ?_;refine an4 rfl W (fun r0 r1=>?_) e;obtain ⟨par,dep,R,k⟩:=k r0 r1;refine ⟨par,dep,R,fun lw H0 nw s0 ew=>⟨aJ (by simp),fun l0 n0=>?_⟩⟩;have s1:=Same.new (.lst [V.non]) n0;refine ⟨T.Web,dx,_,s1 _ _ (s0 _ _ ob),T.kI,T.n_many,_,my m t,?_⟩;refine ⟨l0,m,_,rfl,rfl,ah,by omega,by omega,aJ (by simp;omega),fun l n1=>?_⟩;rw [Mw];have s2:=s1.trans (Same.new (.lst (List.replicate m.toNat V.non)) n1);have nl:=(s0.trans s1).free n1;have nwl:lw≠l:=fun z=>by rw [<- z,s1 _ _ ew] at n1;cases n1
   have el:chL m (fun _=>none)=List.replicate m.toNat V.non:=by
     unfold chL;rw [List.map_const',aY]
     rfl
   have e1:upd (upd H0 l0 (.lst [V.non])) l (.lst (List.replicate m.toNat V.non)) l=some (.lst (chL m (bea m rs r par dep []))):=by rw [ah,<- el];rfl
   generalize upd (upd H0 l0 (.lst [V.non])) l (.lst (List.replicate m.toNat V.non))=H1 at s2 e1 ⊢;have s02:=s0.trans s2;have ew1:=s2 _ _ ew;refine ex6 p t m ps rs r ?_;refine an4 rfl (W.same s02) (fun _ _=>⟨par,dep,R,fun l2 qs tl H2 etl n2 s3 e2 pa O=>?_⟩) (fun z=>absurd ⟨r0,r1⟩ z);have nll:l2≠l:=fun z=>by rw [z,e1] at n2;cases n2
   refine ⟨l2,rfl,_,SqL.of e2,?_⟩;have ql:qs.length=tl.reverse.length:=Paired.length pa;have ll:((ic m rs r par dep).length:Int)=m:=by rw [za];omega
   refine nF (K:=K) (xs:=qs.map V.ref) (fun i σ H3=>Same H H3/\H3 lw=some (.lst ((ic m rs r par dep).map V.int))/\H3 l2=some (.lst (qs.map V.ref))/\PairsAt H3 par qs tl.reverse/\∃ (v4 v5:Option V),H3 l=some (.lst (chL m (bea m rs r par dep (tl.take i))))/\σ=[some (V.ref p),some (V.int r),some (V.ref lw),some (V.ref l),v4,v5]) ⟨s02.trans s3,s3 _ _ ew1,e2,pa,_,_,s3 _ _ e1,rfl⟩ (fun i σ H3 _ z=>SqL.of z.2.2.1) ?_ ?_
   . rintro i x σ H3 N hN hx ⟨s4,w3,e3,pa3,v4,v5,c3,rfl⟩;have il:=(List.getElem?_eq_some_iff.mp hx).1;rw [List.length_reverse,List.length_map] at il;rw [List.length_reverse] at ql;rw [List.getElem?_reverse (by rw [List.length_map];exact il),List.length_map] at hx;obtain ⟨q,v,rfl,hq',hv,eq⟩:=pa3.get hx;rw [List.getElem?_reverse (by omega),show tl.length - 1 - (qs.length - 1 - i)=i by omega] at hv;have vm:=List.mem_of_getElem? hv;have vr:=O.rng v vm;have vn:=O.ne vm;have u:=R.up v vr.1 vr.2 vn;obtain ⟨kk,hk,k0,k1⟩:=mq g R vr.1 vr.2 vn;have ek:tup rs par v=kk:=(by unfold tup;rw [hk];rfl);walk_at "rd";refine ⟨_,SqT.of eq,rfl,_,_,rfl,_,_,rfl,rfl,?_⟩;refine ⟨p,lw,t,m,ps,rs,ic m rs r par dep,v,par v,kk,rfl,W.same s4,SqL.of w3,ll,vr,u.1,hk,k1,k0,_,rfl,?_⟩;rw [qB vr.1 vr.2,qB u.1.1 u.1.2];have etk:tl.take (i+1)=tl.take i++[v]:=(by rw [List.take_succ,hv];rfl);by_cases hh:wgt m rs r par dep v*kk=wgt m rs r par dep (par v)
     . rw [if_pos (decide_eq_true hh)];refine DZ c3 u.1.1 (by unfold chL;rw [List.length_map,aY];omega) ?_;rw [R9 u.1.1 u.1.2];exact hN _ _ ⟨s4.put nl _,by rw [ao nwl];exact w3,by rw [ao nll];exact e3,Paired.imp' (fun a b h=>by rw [ao (dh h c3 (by intro z;cases z))];exact h) pa3,_,_,by rw [ah,etk,MM (by rw [ek];exact hh)],rfl⟩
     . rw [if_neg (by rw [decide_eq_false hh];decide)];exact hN _ _ ⟨s4,w3,e3,pa3,_,_,by rw [etk,NX (by rw [ek];exact hh)];exact c3,rfl⟩
   . rintro σ H3 ⟨s4,w3,e3,pa3,v4,v5,c3,rfl⟩;rw [List.length_reverse] at ql;rw [List.length_map,ql,List.take_length] at c3;walk_at "rd";exact k tl l H3 etl O nl s4 c3
def uD (T:Txt K mg):Sp:=fun vs H Q _=>∃ (a:Addr) (xs:List Int),vs=[.ref a]/\SqL K H a (xs.map V.int)/\xs.length<=1000/\∀ l H',H l=none->Same H H'->H' l=some (.lst ((dfl xs).map V.int))->Q (.ref l) H'
abbrev bH:Stmt:=top 32
theorem j3:FnScope ["values","found","row"] ["values"] (aa bH):=FnScope.of (by kernel_rfl)
theorem ui:NmL (aa bH) "values":=.of (by kernel_rfl)
theorem iQ:NmL (aa bH) "found":=.of (by kernel_rfl)
theorem dc:NmL (aa bH) "row":=.of (by kernel_rfl)
theorem ju:NmG (aa bH) "list":=.of (by kernel_rfl)
theorem xR:NmG (aa bH) "zip":=.of (by kernel_rfl)
theorem DJ (T:Txt K mg) (hq:aQ (CXe P w)) {f:Addr} {fd:FuncData} (D:Df K mg "differences" bH ["values"] f fd):FnOk P w K mg base (CXe P w) 1 f fd ["values"] (uD T):=by
 refine D.F.okC j3 (fun vs H Q E h=>?_) (fun cdv A outer s H vs Q E hr h=>?_)
 . obtain ⟨a,xs,rfl,_⟩:=h
   rfl
 . obtain ⟨a,xs,rfl,ha,xl,k⟩:=h;refine ⟨_,(aj (aw (i:=1) j3.nd rfl (Or.inl iQ.l) (cg ak)) (aj (aw (i:=2) j3.nd rfl (Or.inl dc.l) (mm yA ju.g T.list JU (ag (pvl 0 ui) ak) (hn:=ju.n) (hdb:=ju.d))) (aj (nN PassesOwn.never (rh (pvl 2 dc) (fun _=>rfl)) (aj (bw (gh PySem.F.plainAttrs_list PySem.F.slot_list_append PySem.F.type_list_append cG (pvl 1 iQ) (ag (aH aM (pvl 2 dc) am (fun _ _=>rfl)) ak))) (ap (Bl (i:=2) j3.nd rfl dc.l rfl (wp (Nc:=["earlier","later"]) 2 (by decide +kernel) (by decide +kernel) rfl (by decide +kernel) rfl) (T2 true true xR.g T.zip (ag (pvl 2 dc) (ag (A9 Ky (pvl 2 dc) (yZ am) Kc) ak))) (fun _ _ _ _=>(JX K rfl (n:=2) rfl (aF (ax (i:=0) (show (["earlier","later"]:List Str).Nodup from by decide +kernel) rfl (Or.inl rfl)) (aF (ax (i:=1) (show (["earlier","later"]:List Str).Nodup from by decide +kernel) rfl (Or.inl rfl)) eX)))) (fun _ _ _ _=>g0) (fun _ _ _ _=>(aq gY (pv 1) (pv 0))))))) (ap (aO (pvl 1 iQ)))))),?_⟩;rw [show L2.start ["values","found","row"] [V.ref a]=[some (V.ref a),none,none] from rfl];unfold tSl Fp tNoPart;refine bD fun N0 h0=>?_;walk_at "rd";refine ⟨aJ (by simp),fun l nl=>h0 _ _ (bD fun N1 h1=>?_)⟩;have s1:=Same.new (HO.lst []) nl;have e1:upd H l (HO.lst []) l=some (.lst (([]:List Int).map V.int)):=ah;generalize upd H l (HO.lst [])=H1 at s1 e1 ⊢;walk_at "rd";refine ⟨_,.inl (s1.seq ha),fun q nq=>h1 _ _ (bD fun N2 h2=>?_)⟩;have s2:=Same.new (HO.lst (xs.map V.int)) nq;have e2:upd H1 q (HO.lst (xs.map V.int)) q=some (.lst (xs.map V.int)):=ah;have e12:=s2 _ _ e1;have s12:=s1.trans s2;have nlq:q≠l:=fun z=>by rw [z,e1] at nq;cases nq
   generalize upd H1 q (HO.lst (xs.map V.int))=H2 at s12 e2 e12 ⊢;refine yX (fun n σ H3=>∃ (row done_:List Int) (q:Addr),n=row.length/\done_++dfl row=dfl xs/\done_.length+row.length=xs.length/\q≠l/\H3 q=some (.lst (row.map V.int))/\H3 l=some (.lst (done_.map V.int))/\Same H H3/\σ=[some (V.ref a),some (V.ref l),some (V.ref q)]) _ ⟨xs,[],q,rfl,rfl,by simp,nlq,e2,e12,s12,rfl⟩ ?_;rintro n σ H3 NW hN hN2 ⟨row,dn,q,rfl,hd,hl,nlq,e3,e3l,s3,rfl⟩;refine ⟨_,rfl,!(row.map V.int).isEmpty,.inl ⟨_,SqL.of e3,rfl⟩,?_⟩;cases row with
   | nil =>
     refine Ts (h2 _ _ ?_);walk_at "rd";have hd:dn=dfl xs:=by
       have:dn++[]=dfl xs:=hd;rw [List.append_nil] at this;exact this
     exact k l H3 nl s3 (by rw [e3l,hd])
   | cons x r =>
     refine UC ⟨NW,hN2,?_⟩;rw [List.length_cons] at hl;refine bD fun M1 k1=>?_;walk_at "rd";refine ⟨tyL e3l,ixL e3 (v:=V.int x) (cL (Int.le_refl 0) rfl) (pN e3l (bG (by rw [List.length_map];omega)) (k1 _ _ ?_))⟩;have e4:upd H3 l (HO.lst (dn.map V.int++[V.int x])) l=some (.lst ((dn++[x]).map V.int)):=(by rw [ah,List.map_append];rfl);have e4q:upd H3 l (HO.lst (dn.map V.int++[V.int x])) q=some (.lst ((x::r).map V.int)):=(by rw [ao nlq];exact e3);have s4:Same H (upd H3 l (HO.lst (dn.map V.int++[V.int x]))):=fun b o e=>by rw [ao (ay e nl)];exact s3 _ _ e
     generalize upd H3 l (HO.lst (dn.map V.int++[V.int x]))=H4 at e4 e4q s4 ⊢;walk_at "rd";refine slI (SqL.of e4q) fun p np=>?_;have s5:=Same.new (HO.lst ((C4 (x::r) (some 1) none).map V.int)) np;have e5:upd H4 p (HO.lst ((C4 (x::r) (some 1) none).map V.int)) p=some (.lst (((x::r).drop 1).map V.int)):=by
       rw [ah,<- GB,Tl _ (by decide),List.map_drop]
       rfl
     generalize upd H4 p (HO.lst ((C4 (x::r) (some 1) none).map V.int))=H5 at s5 e5 ⊢;have e4q5:=s5 _ _ e4q;have e45:=s5 _ _ e4;have s45:=s4.trans s5;refine ⟨q,p,⟨rfl,rfl⟩,⟨_,SqL.of e4q5⟩,⟨_,SqL.of e5⟩,fun pc npc=>?_⟩;refine P9 (K:=K) (c:=true) (d:=true) (a:=q) (b:=p) (xs:=(x::r).map V.int) (zs:=((x::r).drop 1).map V.int) (fun i bs σ H6=>Same H5 H6/\H6 pc=some (.lst bs)/\bs=((((x::r).zip ((x::r).drop 1)).take i).map fun q=>q.2 - q.1).map V.int/\∃ v w,σ=[v,w]) ⟨Same.new _ npc,ah,rfl,_,_,rfl⟩ (fun i bs σ H6 z=>⟨SqL.of (z.1 _ _ e4q5),SqL.of (z.1 _ _ e5)⟩) ?_ ?_
     . rintro i y1 y2 bs σ H6 qt N hN6 h1 h2 ⟨s6,e6,rfl,v,w,rfl⟩ nqt;obtain ⟨a1,ha1,rfl⟩:=List.getElem?_map_some h1;obtain ⟨a2,ha2,rfl⟩:=List.getElem?_map_some h2;have ez:((x::r).zip ((x::r).drop 1))[i]?=some (a1,a2):=by
         rw [List.getElem?_zip_eq_some];exact ⟨ha1,ha2⟩
       have il:=(List.getElem?_eq_some_iff.mp ha1).1;have et:((x::r).zip ((x::r).drop 1)).take (i+1)=((x::r).zip ((x::r).drop 1)).take i++[(a1,a2)]:=(by rw [List.take_succ,ez];rfl);rw [List.length_cons] at il;walk_at "rd";have s7:=Same.new (HO.tup [V.int a1,V.int a2]) nqt;refine ⟨_,SqT.of ah,rfl,_,_,rfl,_,_,rfl,rfl,?_⟩;walk_at "rd";refine ⟨s7 _ _ e6,bG (by rw [List.length_map,List.length_map,List.length_take];omega),hN6 _ _ _ ⟨?_,ah,?_,_,_,rfl⟩⟩
       . exact fun b o e=>by rw [ao (ay e npc)];exact s7 _ _ (s6 _ _ e)
       . rw [et,List.map_append,List.map_append]
         rfl
     . rintro bs σ H6 ⟨s6,e6,rfl,v,w,rfl⟩;have en:((((x::r).zip ((x::r).drop 1)).take (min ((x::r).map V.int).length (((x::r).drop 1).map V.int).length)).map fun q=>q.2 - q.1)=nxr (x::r):=by
         unfold nxr;rw [List.take_of_length_le];rw [List.length_zip,List.length_map,List.length_map];exact Nat.le_refl _
       rw [en] at e6;have nl5:H5 l≠none:=(by rw [e45];intro z;cases z);exact hN _ _ _ (by rw [DW];simp) ⟨nxr (x::r),dn++[x],pc,rfl,by rw [List.append_assoc,<- hd,OJ];rfl,by rw [List.length_append,DW];simp;omega,fun z=>nl5 (by rw [<- z];exact npc),e6,s6 _ _ e45,s45.trans s6,rfl⟩
def sV (T:Txt K mg):Sp:=fun vs H Q _=>∃ (a:Addr) (cs:List Int) (n:Nat),vs=[.ref a,.int n]/\SqL K H a (cs.map V.int)/\cs.length<=100/\n<BIG/\(∀ c∈cs,c.natAbs<BIG)/\(∀ k,k<cs.length->ch n k<BIG)/\∀ H',Same H H'->Q (.int (nwS cs n 0)) H'
abbrev bU:Stmt:=top 33
theorem gQ:FnScope ["found","at","value","choices","k","difference"] ["found","at"] (aa bU):=FnScope.of (by kernel_rfl)
theorem zy:NmL (aa bU) "found":=.of (by kernel_rfl)
theorem Da:NmL (aa bU) "at":=.of (by kernel_rfl)
theorem kE:NmL (aa bU) "value":=.of (by kernel_rfl)
theorem f9:NmL (aa bU) "choices":=.of (by kernel_rfl)
theorem pC:NmL (aa bU) "k":=.of (by kernel_rfl)
theorem kW:NmL (aa bU) "difference":=.of (by kernel_rfl)
theorem uH:NmG (aa bU) "enumerate":=.of (by kernel_rfl)
theorem Jl (T:Txt K mg) (hq:aQ (CXe P w)) {f:Addr} {fd:FuncData} (D:Df K mg "value_at" bU ["found","at"] f fd):FnOk P w K mg base (CXe P w) 1 f fd ["found","at"] (sV T):=by
 refine D.F.okC gQ (fun vs H Q E h=>?_) (fun cdv A outer s H vs Q E hr h=>?_)
 . obtain ⟨a,cs,n,rfl,_⟩:=h
   rfl
 . obtain ⟨a,cs,n,rfl,ha,cl,nb,cb,hb,k⟩:=h;refine ⟨_,(aj (aw (i:=2) gQ.nd rfl (Or.inl kE.l) am) (aj (aw (i:=3) gQ.nd rfl (Or.inl f9.l) am) (aj (cq PassesOwn.never rfl (Kx true uH.g T.enumerate (pvl 0 zy)) (hV (n:=2) rfl (aF (ax (i:=4) gQ.nd rfl (Or.inl pC.l)) (aF (ax (i:=5) gQ.nd rfl (Or.inl kW.l)) eX))) (aj (Uj (i:=2) gQ.nd rfl (Or.inl kE.l) (aq ke (pvl 5 kW) (pvl 3 f9)) Ud) (ap (aw (i:=3) gQ.nd rfl (Or.inl f9.l) (aq cP (aq ke (pvl 3 f9) (aq gY (pvl 1 Da) (pvl 4 pC))) (aq bu (pvl 4 pC) am)))))) (ap (aO (pvl 2 kE)))))),?_⟩;rw [show L2.start ["found","at","value","choices","k","difference"] [V.ref a,V.int n]=[some (V.ref a),some (V.int n),none,none,none,none] from rfl];walk_at "rd";refine ⟨⟨_,ha⟩,?_⟩;refine Ph (K:=K) (c:=true) (xs:=cs.map V.int) (fun i σ H2=>Same H H2/\∃ v4 v5,σ=[some (V.ref a),some (V.int n),some (V.int (nwS (cs.take i) n 0)),some (V.int (ch n i)),v4,v5]) ⟨Same.refl _,_,_,by rw [gw];rfl⟩ (fun i σ H2 z=>z.1.seq ha) ?_ ?_
   . rintro i x σ H2 q N hN hx ⟨s2,v4,v5,rfl⟩ nq;obtain ⟨c,hc,rfl⟩:=List.getElem?_map_some hx;have il:=(List.getElem?_eq_some_iff.mp hc).1;have et:cs.take (i+1)=cs.take i++[c]:=(by rw [List.take_succ,hc];rfl);have s3:=Same.new (HO.tup [V.int (i:Int),V.int c]) nq;have cc:=cb c (List.mem_of_getElem? hc);have hci:=hb i il;have ni:((n:Int) - (i:Int)).natAbs<BIG:=by
       have:(100:Nat)<BIG:=hG (k:=7) (by decide) (by decide);omega
     have hcn:((ch n i:Nat):Int).natAbs<BIG:=(by rw [Int.natAbs_natCast];exact hci);walk_at "rd";refine ⟨_,SqT.of ah,rfl,_,_,rfl,_,_,rfl,rfl,c,rfl,jY cc hcn,(i:Int),rfl,jY hcn ni,(i:Int),rfl,⟨by omega,by omega⟩,hN _ _ ⟨s2.trans s3,some (V.int (i:Int)),some (V.int c),?_⟩⟩;rw [<- y8,Int.mul_ediv_cancel _ (show (i:Int)+1≠0 by omega),et,Hs,List.length_take,Nat.min_eq_left (by omega),Nat.zero_add]
   . rintro σ H2 ⟨s2,v4,v5,rfl⟩;rw [List.length_map,List.take_length];walk_at "rd";exact k H2 s2
def se (T:Txt K mg):Sp:=fun vs H Q _=>∃ (a:Addr) (cs:List Int) (n:Nat),vs=[.ref a,.int n]/\SqL K H a (cs.map V.int)/\cs.length<=100/\n<=100/\(∀ c∈cs,c.natAbs<BIG)/\∀ l H',H l=none->Same H H'->H' l=some (.lst (((List.range n).map fun i=>nwS cs i 0).map V.int))->Q (.ref l) H'
abbrev bI:Stmt:=top 34
theorem BH:FnScope ["found","many"] ["found","many"] (aa bI):=FnScope.of (by kernel_rfl)
theorem Kr:NmC (aa bI) "found":=.of (by kernel_rfl)
theorem uY:NmL (aa bI) "many":=.of (by kernel_rfl)
theorem uK:NmG (aa bI) "range":=.of (by kernel_rfl)
theorem CJ (T:Txt K mg) (hq:aQ (CXe P w)) {f:Addr} {fd:FuncData} (D:Df K mg "first_values" bI ["found","many"] f fd) {eE:Addr} {kK:FuncData} (dz:Df K mg "value_at" bU ["found","at"] eE kK) (G_value_at:FnOk P w K mg base (CXe P w) 1 eE kK ["found","at"] (sV T)):FnOk P w K mg base (CXe P w) 2 f fd ["found","many"] (se T):=by
 refine D.F.okC BH (fun vs H Q E h=>?_) (fun cdv A outer s H vs Q E hr h=>?_)
 . obtain ⟨a,cs,n,rfl,_⟩:=h
   rfl
 . obtain ⟨a,cs,n,rfl,ha,cl,nb,cb,k⟩:=h;refine ⟨_,(ap (aO (eW rfl (gr (Nc:=["at","found"]) 1 [0] (by decide +kernel) rfl (by decide +kernel) rfl (by show ∀ (y:Str × NameKind),y∈_->y.2=NameKind.free->(aa bI).names.lookup y.1=some NameKind.cell;decide +kernel) rfl (fun _ h=>dA h) (fun i hi=>match i,hi with|0,_=>⟨"found",0,rfl,rfl,rfl,by decide +kernel⟩|i+1,hi=>absurd hi (by show ¬ i+1<1;omega))) (eR uK.g T.range (ag (pvl 1 uY) ak)) (fun _ _ _ _=>(ax (i:=0) (show (["at","found"]:List Str).Nodup from by decide +kernel) rfl (Or.inl rfl))) (fun _ _ _ _=>g0) (fun _ _ _ _=>(au G_value_at (hr.mono (by decide)) (by rfl) dz.m dz.F.kp dz.b .nil (aL hq) (ag (pv 1) (ag (pv 0) ak))))))),?_⟩;rw [show L2.start ["found","many"] [V.ref a,V.int n]=[some (V.ref a),some (V.int n)] from rfl];walk_at "rd";refine ⟨by omega,by omega,fun p np=>?_⟩;rw [Int.toNat_natCast];refine j8 (lo:=0) (n:=n) (fun i ys σ H2=>Same H H2/\H2 p=some (.lst ys)/\ys=((List.range i).map fun i=>nwS cs i 0).map V.int/\∃ v,σ=[v,some (V.ref a)]) ⟨Same.new _ np,ah,rfl,_,rfl⟩ ?_ ?_
   . rintro i ys σ H2 N hN hi ⟨s2,e2,rfl,v,rfl⟩;walk_at "rd";refine ⟨a,cs,i,by rw [Int.zero_add],s2.seq ha,cl,?_,cb,fun k _=>TQ (by omega),fun H3 s3=>⟨s3 _ _ e2,bG (by rw [List.length_map,List.length_map,List.length_range];omega),hN _ _ _ ⟨?_,ah,?_,_,rfl⟩⟩⟩
     . exact hG (k:=7) (by omega) (by decide)
     . exact fun b o e=>by rw [ao (ay e np)];exact s3 _ _ (s2 _ _ e)
     . rw [List.range_succ,List.map_append,List.map_append]
       rfl
   . rintro ys σ H2 ⟨s2,e2,rfl,v,rfl⟩;exact k p H2 np s2 e2
def BP (T:Txt K mg):Sp:=fun vs H Q _=>∃ (t dx w tw lw lb:Addr) (fs:List (Str × V)) (m:Int) (ps:List Addr) (rs:List Road) (xs:List Int) (cv:List V) (p k c:Int) (ob:Option Int),vs=[.ref t,.int p,.int k]/\H t=some (.ins T.Tally dx fs)/\fs.lookup ("web":Str)=some (.ref w)/\fs.lookup ("weights":Str)=some (.ref lw)/\fs.lookup ("bearers":Str)=some (.ref lb)/\WebAt T.Web H w m tw ps rs/\H lw=some (.lst (xs.map V.int))/\(xs.length:Int)=m/\H lb=some (.lst cv)/\(0<=p/\p<m)/\(0<=k/\k<m)/\cv[p.toNat]?=some (chV ob)/\aZ rs k p=some c/\2<=c/\c<=1000000/\Q (.bl (decide (xs.getD k.toNat 0*c=xs.getD p.toNat 0) && decide (ob≠some k))) H
abbrev dI:Stmt:=top 41
theorem LU:FnScope ["tally","place","kid"] ["tally","place","kid"] (aa dI):=FnScope.of (by kernel_rfl)
theorem lI:NmL (aa dI) "tally":=.of (by kernel_rfl)
theorem qT:NmL (aa dI) "place":=.of (by kernel_rfl)
theorem uy:NmL (aa dI) "kid":=.of (by kernel_rfl)
theorem nj:NmG (aa dI) "is_heavy":=.of (by kernel_rfl)
theorem L3 (T:Txt K mg) (hq:aQ (CXe P w)) {f:Addr} {fd:FuncData} (D:Df K mg "is_free" dI ["tally","place","kid"] f fd) {eJ:Addr} {kT:FuncData} (dB:Df K mg "is_heavy" cA ["web","weights","place","front"] eJ kT) (G_is_heavy:FnOk P w K mg base (CXe P w) 5 eJ kT ["web","weights","place","front"] (sY T)):FnOk P w K mg base (CXe P w) 6 f fd ["tally","place","kid"] (BP T):=by
 refine D.F.okC LU (fun vs H Q E h=>?_) (fun cdv A outer s H vs Q E hr h=>?_)
 . obtain ⟨t,dx,w,tw,lw,lb,fs,m,ps,rs,xs,cv,p,k,c,ob,rfl,_⟩:=h
   rfl
 . obtain ⟨t,dx,w,tw,lw,lb,fs,m,ps,rs,xs,cv,p,k,c,ob,rfl,ht,fw,fg,fb,W,ew,wl,eb,hp,hk,hc,ec,c2,c1,q⟩:=h;refine ⟨_,(ap (aO (F7 (au G_is_heavy (hr.mono (by decide)) nj.g dB.m dB.F.kp dB.b .nil (aL hq) (ag (dR  (pvl 0 lI) rfl) (ag (dR  (pvl 0 lI) rfl) (ag (pvl 2 uy) (ag (pvl 1 qT) ak)))) (hdb:=nj.d)) (Gy (CW sA (pvl 2 uy) (aH aM (dR  (pvl 0 lI) rfl) (pvl 1 qT) (fun _ _=>rfl)) (bc _)))))),?_⟩;rw [show L2.start ["tally","place","kid"] [V.ref t,V.int p,V.int k]=[some (V.ref t),some (V.int p),some (V.int k)] from rfl];walk_at "rd";refine ⟨T.Tally,dx,fs,ht,T.cQ,T.n_web,_,fw,T.Tally,dx,fs,ht,T.cQ,T.n_weights,_,fg,w,lw,tw,m,ps,rs,xs,k,p,c,rfl,W,SqL.of ew,wl,hk,hp,ec,c1,c2,⟨_,rfl,?_⟩⟩;by_cases hv:xs.getD k.toNat 0*c=xs.getD p.toNat 0
   . rw [if_pos (decide_eq_true hv)];refine ⟨T.Tally,dx,fs,ht,T.cQ,T.xk,_,fb,ixL eb (cL hp.1 hc) ⟨?_,?_⟩⟩
     . cases ob <;> rfl
     . have e:(!decide (V.int k=chV ob))=(decide (xs.getD k.toNat 0*c=xs.getD p.toNat 0) && decide (ob≠some k)):=by
         rw [decide_eq_true hv,Bool.true_and];cases ob with
         | none=>simp [chV]
         | some j =>
           by_cases z:j=k
           . subst z;simp [chV]
           . simp [chV,z,Ne.symm z]
       rw [e];exact q
   . rw [if_neg (by rw [decide_eq_true_eq];exact hv)];rw [decide_eq_false hv,Bool.false_and] at q;exact q
def xw (T:Txt K mg):Sp:=fun vs H Q _=>∃ (a b:Addr) (xs ys:List Int) (n:Nat),vs=[.ref a,.ref b,.int n]/\SqL K H a (xs.map V.int)/\SqL K H b (ys.map V.int)/\n<xs.length/\n<ys.length/\n<=100/\(∀ c∈xs,c.natAbs<BIG)/\(∀ c∈ys,c.natAbs<BIG)/\∀ H',Same H H'->Q (.int (cnv (fun i=>xs.getD i 0) (fun i=>ys.getD i 0) n)) H'
abbrev b8:Stmt:=top 36
theorem Gc:FnScope ["one","other","at"] ["one","other","at"] (aa b8):=FnScope.of (by kernel_rfl)
theorem QH:NmC (aa b8) "one":=.of (by kernel_rfl)
theorem M0:NmC (aa b8) "other":=.of (by kernel_rfl)
theorem Cw:NmC (aa b8) "at":=.of (by kernel_rfl)
theorem lV:NmG (aa b8) "sum":=.of (by kernel_rfl)
theorem ya:NmG (aa b8) "range":=.of (by kernel_rfl)
theorem FH (T:Txt K mg) (hq:aQ (CXe P w)) {f:Addr} {fd:FuncData} (D:Df K mg "parted_at" b8 ["one","other","at"] f fd):FnOk P w K mg base (CXe P w) 1 f fd ["one","other","at"] (xw T):=by
 refine D.F.okC Gc (fun vs H Q E h=>?_) (fun cdv A outer s H vs Q E hr h=>?_)
 . obtain ⟨a,b,xs,ys,n,rfl,_⟩:=h
   rfl
 . obtain ⟨a,b,xs,ys,n,rfl,ha,hb,nx,ny,n1,cx,cy,k⟩:=h;refine ⟨_,(ap (aO (cz (OS rfl) lV.g T.sum TR (ag (eW rfl (gr (Nc:=["k","one","other","at"]) 1 [0,1,2] (by decide +kernel) rfl (by decide +kernel) rfl (by show ∀ (y:Str × NameKind),y∈_->y.2=NameKind.free->(aa b8).names.lookup y.1=some NameKind.cell;decide +kernel) rfl (fun _ h=>dA h) (fun i hi=>match i,hi with|0,_=>⟨"one",0,rfl,rfl,rfl,by decide +kernel⟩|1,_=>⟨"other",1,rfl,rfl,rfl,by decide +kernel⟩|2,_=>⟨"at",2,rfl,rfl,rfl,by decide +kernel⟩|i+3,hi=>absurd hi (by show ¬ i+3<3;omega))) (eR ya.g T.range (ag (aq bu (pvc 2 Cw) am) ak)) (fun _ _ _ _=>(ax (i:=0) (show (["k","one","other","at"]:List Str).Nodup from by decide +kernel) rfl (Or.inl rfl))) (fun _ _ _ _=>g0) (fun _ _ _ _=>(aq ke (aH (oH K rfl) (pv 1) (pv 0) (fun _ _=>rfl)) (aH (oH K rfl) (pv 2) (aq gY (pv 3) (pv 0)) (fun _ _=>rfl))))) ak) (hn:=lV.n) (hdb:=lV.d)))),?_⟩;rw [show L2.start ["one","other","at"] [V.ref a,V.ref b,V.int n]=[some (V.ref a),some (V.ref b),some (V.int n)] from rfl];walk_at "rd";refine ⟨by omega,by omega,fun p np=>?_⟩;rw [show ((n:Int)+1).toNat=n+1 by omega];refine j8 (lo:=0) (n:=n+1) (fun i zs σ H2=>Same H H2/\H2 p=some (.lst zs)/\zs=((List.range i).map fun k=>xs.getD k 0*ys.getD (n - k) 0).map V.int/\∃ v,σ=[v,some (V.ref a),some (V.ref b),some (V.int n)]) ⟨Same.new _ np,ah,rfl,_,rfl⟩ ?_ ?_
   . rintro i zs σ H2 N hN hi ⟨s2,e2,rfl,v,rfl⟩;walk_at "rd";have ix:i<xs.length:=(by omega);have iy:n - i<ys.length:=(by omega);have ex:xs.getD i 0=xs[i]:=(by rw [List.getD_eq_getElem?_getD,List.getElem?_eq_getElem ix];rfl);have ey:ys.getD (n - i) 0=ys[n - i]:=(by rw [List.getD_eq_getElem?_getD,List.getElem?_eq_getElem iy];rfl);refine ⟨a,_,_,_,rfl,rfl,s2.seq ha,cL (v:=V.int (xs.getD i 0)) (by omega) (by rw [show ((0:Int)+(i:Int)).toNat=i by omega,List.getElem?_map,List.getElem?_eq_getElem ix,ex];rfl),b,_,_,_,rfl,rfl,s2.seq hb,cL (v:=V.int (ys.getD (n - i) 0)) (by omega) (by rw [show ((n:Int) - (0+(i:Int))).toNat=n - i by omega,List.getElem?_map,List.getElem?_eq_getElem iy,ey];rfl),xs.getD i 0,rfl,ys.getD (n - i) 0,rfl,jY (by rw [ex];exact cx _ (List.getElem_mem ix)) (by rw [ey];exact cy _ (List.getElem_mem iy)),e2,bG (by rw [List.length_map,List.length_map,List.length_range];omega),hN _ _ _ ⟨?_,ah,?_,_,rfl⟩⟩
     . exact fun b o e=>by rw [ao (ay e np)];exact s2 _ _ e
     . rw [List.range_succ,List.map_append,List.map_append]
       rfl
   . rintro zs σ H2 ⟨s2,e2,rfl,v,rfl⟩;refine ⟨p,rfl,_,.inl (SqL.of e2),?_⟩;rw [JT];exact k H2 s2
def Ek (T:Txt K mg):Sp:=fun vs H Q _=>∃ (a b:Addr) (xs ys:List Int),vs=[.ref a,.ref b]/\SqL K H a (xs.map V.int)/\SqL K H b (ys.map V.int)/\xs.length<=ys.length/\xs.length<=100/\(∀ c∈xs,c.natAbs<BIG)/\(∀ c∈ys,c.natAbs<BIG)/\∀ l H',H l=none->Same H H'->H' l=some (.lst (((List.range xs.length).map fun n=>cnv (fun i=>xs.getD i 0) (fun i=>ys.getD i 0) n).map V.int))->Q (.ref l) H'
abbrev dZ:Stmt:=top 35
theorem MW:FnScope ["one","other"] ["one","other"] (aa dZ):=FnScope.of (by kernel_rfl)
theorem EL:NmC (aa dZ) "one":=.of (by kernel_rfl)
theorem RO:NmC (aa dZ) "other":=.of (by kernel_rfl)
theorem CG:NmG (aa dZ) "range":=.of (by kernel_rfl)
theorem py:NmG (aa dZ) "len":=.of (by kernel_rfl)
theorem M5 (T:Txt K mg) (hq:aQ (CXe P w)) {f:Addr} {fd:FuncData} (D:Df K mg "parted" dZ ["one","other"] f fd) {gL:Addr} {yp:FuncData} (jo:Df K mg "parted_at" b8 ["one","other","at"] gL yp) (G_parted_at:FnOk P w K mg base (CXe P w) 1 gL yp ["one","other","at"] (xw T)):FnOk P w K mg base (CXe P w) 2 f fd ["one","other"] (Ek T):=by
 refine D.F.okC MW (fun vs H Q E h=>?_) (fun cdv A outer s H vs Q E hr h=>?_)
 . obtain ⟨a,b,xs,ys,rfl,_⟩:=h
   rfl
 . obtain ⟨a,b,xs,ys,rfl,ha,hb,xy,x1,cx,cy,k⟩:=h;refine ⟨_,(ap (aO (eW rfl (gr (Nc:=["at","one","other"]) 1 [0,1] (by decide +kernel) rfl (by decide +kernel) rfl (by show ∀ (y:Str × NameKind),y∈_->y.2=NameKind.free->(aa dZ).names.lookup y.1=some NameKind.cell;decide +kernel) rfl (fun _ h=>dA h) (fun i hi=>match i,hi with|0,_=>⟨"one",0,rfl,rfl,rfl,by decide +kernel⟩|1,_=>⟨"other",1,rfl,rfl,rfl,by decide +kernel⟩|i+2,hi=>absurd hi (by show ¬ i+2<2;omega))) (eR CG.g T.range (ag (cz cZ py.g T.len jI (ag (pvc 0 EL) ak) (hn:=py.n) (hdb:=py.d)) ak)) (fun _ _ _ _=>(ax (i:=0) (show (["at","one","other"]:List Str).Nodup from by decide +kernel) rfl (Or.inl rfl))) (fun _ _ _ _=>g0) (fun _ _ _ _=>(au G_parted_at (hr.mono (by decide)) (by rfl) jo.m jo.F.kp jo.b .nil (aL hq) (ag (pv 1) (ag (pv 2) (ag (pv 0) ak)))))))),?_⟩;rw [show L2.start ["one","other"] [V.ref a,V.ref b]=[some (V.ref a),some (V.ref b)] from rfl];walk_at "rd";refine ⟨_,.inl ha,?_⟩;rw [List.length_map];refine ⟨by omega,by omega,fun p np=>?_⟩;rw [Int.toNat_natCast];refine j8 (lo:=0) (n:=xs.length) (fun i zs σ H2=>Same H H2/\H2 p=some (.lst zs)/\zs=((List.range i).map fun n=>cnv (fun i=>xs.getD i 0) (fun i=>ys.getD i 0) n).map V.int/\∃ v,σ=[v,some (V.ref a),some (V.ref b)]) ⟨Same.new _ np,ah,rfl,_,rfl⟩ ?_ ?_
   . rintro i zs σ H2 N hN hi ⟨s2,e2,rfl,v,rfl⟩;walk_at "rd";refine ⟨a,b,xs,ys,i,by rw [Int.zero_add],s2.seq ha,s2.seq hb,hi,by omega,by omega,cx,cy,fun H3 s3=>⟨s3 _ _ e2,bG (by rw [List.length_map,List.length_map,List.length_range];omega),hN _ _ _ ⟨?_,ah,?_,_,rfl⟩⟩⟩
     . exact fun b o e=>by rw [ao (ay e np)];exact s3 _ _ (s2 _ _ e)
     . rw [List.range_succ,List.map_append,List.map_append]
       rfl
   . rintro zs σ H2 ⟨s2,e2,rfl,v,rfl⟩;exact k p H2 np s2 e2
def zL (T:Txt K mg):Sp:=fun vs H Q _=>∃ (t dx w tw:Addr) (fs:List (Str × V)) (m:Int) (ps:List Addr) (rs:List Road) (p k c:Int) (n:Nat),vs=[.ref t,.int p,.int k,.int n]/\H t=some (.ins T.Tally dx fs)/\fs.lookup ("web":Str)=some (.ref w)/\WebAt T.Web H w m tw ps rs/\(0<=p/\p<m)/\(0<=k/\k<m)/\aZ rs k p=some c/\2<=c/\c<=1000000/\Q (.int (((n:Int)+1)*c - 1)) H
abbrev cM:Stmt:=top 44
theorem Jv:FnScope ["tally","place","kid","given"] ["tally","place","kid","given"] (aa cM):=FnScope.of (by kernel_rfl)
theorem zm:NmL (aa cM) "tally":=.of (by kernel_rfl)
theorem zr:NmL (aa cM) "place":=.of (by kernel_rfl)
theorem BU:NmL (aa cM) "kid":=.of (by kernel_rfl)
theorem zA:NmL (aa cM) "given":=.of (by kernel_rfl)
theorem rF:NmG (aa cM) "toll":=.of (by kernel_rfl)
theorem IP (T:Txt K mg) (hq:aQ (CXe P w)) {f:Addr} {fd:FuncData} (D:Df K mg "held_for" cM ["tally","place","kid","given"] f fd) {kX:Addr} {uw:FuncData} (jJ:Df K mg "toll" dP ["web","a","b"] kX uw) (G_toll:FnOk P w K mg base (CXe P w) 3 kX uw ["web","a","b"] (Dz T)):FnOk P w K mg base (CXe P w) 4 f fd ["tally","place","kid","given"] (zL T):=by
 refine D.F.okC Jv (fun vs H Q E h=>?_) (fun cdv A outer s H vs Q E hr h=>?_)
 . obtain ⟨t,dx,w,tw,fs,m,ps,rs,p,k,c,n,rfl,_⟩:=h
   rfl
 . obtain ⟨t,dx,w,tw,fs,m,ps,rs,p,k,c,n,rfl,ht,fw,W,hp,hk,hc,c2,c1,q⟩:=h;refine ⟨_,(ap (aO (aq gY (aq dU (aq bu (pvl 3 zA) am) (au G_toll (hr.mono (by decide)) rF.g jJ.m jJ.F.kp jJ.b .nil (aL hq) (ag (dR  (pvl 0 zm) rfl) (ag (pvl 2 BU) (ag (pvl 1 zr) ak))) (hdb:=rF.d))) am))),?_⟩;rw [show L2.start ["tally","place","kid","given"] [V.ref t,V.int p,V.int k,V.int n]=[some (V.ref t),some (V.int p),some (V.int k),some (V.int n)] from rfl];walk_at "rd";refine ⟨T.Tally,dx,fs,ht,T.cQ,T.n_web,_,fw,w,tw,m,ps,rs,k,p,rfl,W,fun c' _ _ _ _ hc'=>?_,fun no=>absurd ⟨hk,hp⟩ no,fun _ _ _ _ hc'=>absurd (hc.symm.trans hc') (by intro z;cases z)⟩;have:c'=c:=Option.some.inj (hc'.symm.trans hc);subst this;exact ⟨c',rfl,.inr ⟨by omega,by omega⟩,q⟩
def vk (T:Txt K mg):Sp:=fun vs H Q _=>∃ (t dx lr lp ld:Addr) (fs:List (Str × V)) (rv pv:List V) (p:Int) (cs:List Int) (n:Nat),vs=[.ref t,.int p,.int n]/\H t=some (.ins T.Tally dx fs)/\fs.lookup ("rests":Str)=some (.ref lr)/\H lr=some (.lst rv)/\0<=p/\rv[p.toNat]?=some (.ref lp)/\H lp=some (.lst (.ref ld::pv))/\H ld=some (.lst (cs.map V.int))/\cs.length<=100/\n<BIG/\(∀ c∈cs,c.natAbs<BIG)/\(∀ k,k<cs.length->ch n k<BIG)/\∀ H',Same H H'->Q (.int (nwS cs n 0)) H'
abbrev df:Stmt:=top 42
theorem KZ:FnScope ["tally","place","held"] ["tally","place","held"] (aa df):=FnScope.of (by kernel_rfl)
theorem A2:NmL (aa df) "tally":=.of (by kernel_rfl)
theorem A0:NmL (aa df) "place":=.of (by kernel_rfl)
theorem BS:NmL (aa df) "held":=.of (by kernel_rfl)
theorem nh:NmG (aa df) "value_at":=.of (by kernel_rfl)
theorem MA (T:Txt K mg) (hq:aQ (CXe P w)) {f:Addr} {fd:FuncData} (D:Df K mg "ways_of" df ["tally","place","held"] f fd) {eE:Addr} {kK:FuncData} (dz:Df K mg "value_at" bU ["found","at"] eE kK) (G_value_at:FnOk P w K mg base (CXe P w) 1 eE kK ["found","at"] (sV T)):FnOk P w K mg base (CXe P w) 2 f fd ["tally","place","held"] (vk T):=by
 refine D.F.okC KZ (fun vs H Q E h=>?_) (fun cdv A outer s H vs Q E hr h=>?_)
 . obtain ⟨t,dx,lr,lp,ld,fs,rv,pv,p,cs,n,rfl,_⟩:=h
   rfl
 . obtain ⟨t,dx,lr,lp,ld,fs,rv,pv,p,cs,n,rfl,ht,fr,er,p0,hp,ep,ed,cl,nb,cb,hb,k⟩:=h;refine ⟨_,(ap (aO (au G_value_at (hr.mono (by decide)) nh.g dz.m dz.F.kp dz.b .nil (aL hq) (ag (aH aM (aH aM (dR  (pvl 0 A2) rfl) (pvl 1 A0) (fun _ _=>rfl)) am (fun _ _=>rfl)) (ag (pvl 2 BS) ak)) (hdb:=nh.d)))),?_⟩;rw [show L2.start ["tally","place","held"] [V.ref t,V.int p,V.int n]=[some (V.ref t),some (V.int p),some (V.int n)] from rfl];walk_at "rd";refine ⟨T.Tally,dx,fs,ht,T.cQ,T.n_rests,_,fr,ixL er (cL p0 hp) (ixL ep (cL (Int.le_refl 0) rfl) ?_)⟩;exact ⟨ld,cs,n,rfl,SqL.of ed,cl,nb,cb,hb,k⟩
def wE (T:Txt K mg):Sp:=fun vs H Q _=>∃ (t dx w tw lr lp ld:Addr) (fs:List (Str × V)) (m:Int) (ps:List Addr) (rs:List Road) (rv pv:List V) (p k:Int) (c n:Nat) (cs:List Int),vs=[.ref t,.int p,.int k,.int n]/\H t=some (.ins T.Tally dx fs)/\fs.lookup ("web":Str)=some (.ref w)/\fs.lookup ("rests":Str)=some (.ref lr)/\WebAt T.Web H w m tw ps rs/\(0<=p/\p<m)/\(0<=k/\k<m)/\aZ rs k p=some (c:Int)/\2<=c/\c<=1000000/\H lr=some (.lst rv)/\rv[k.toNat]?=some (.ref lp)/\H lp=some (.lst (.ref ld::pv))/\H ld=some (.lst (cs.map V.int))/\cs.length<=24/\n<=24/\(∀ c∈cs,c.natAbs<BIG)/\∀ H',Same H H'->Q (.int (nwS cs (hld c n) 0)) H'
abbrev bK:Stmt:=top 43
theorem EA:FnScope ["tally","place","kid","given"] ["tally","place","kid","given"] (aa bK):=FnScope.of (by kernel_rfl)
theorem m9:NmL (aa bK) "tally":=.of (by kernel_rfl)
theorem wY:NmL (aa bK) "place":=.of (by kernel_rfl)
theorem qc:NmL (aa bK) "kid":=.of (by kernel_rfl)
theorem wW:NmL (aa bK) "given":=.of (by kernel_rfl)
theorem ml:NmG (aa bK) "ways_of":=.of (by kernel_rfl)
theorem kU:NmG (aa bK) "held_for":=.of (by kernel_rfl)
theorem Fb (T:Txt K mg) (hq:aQ (CXe P w)) {f:Addr} {fd:FuncData} (D:Df K mg "ways_given" bK ["tally","place","kid","given"] f fd) {iC:Addr} {Ad:FuncData} (kf:Df K mg "held_for" cM ["tally","place","kid","given"] iC Ad) (G_held_for:FnOk P w K mg base (CXe P w) 4 iC Ad ["tally","place","kid","given"] (zL T)) {fL:Addr} {mH:FuncData} (eP:Df K mg "ways_of" df ["tally","place","held"] fL mH) (G_ways_of:FnOk P w K mg base (CXe P w) 2 fL mH ["tally","place","held"] (vk T)):FnOk P w K mg base (CXe P w) 5 f fd ["tally","place","kid","given"] (wE T):=by
 refine D.F.okC EA (fun vs H Q E h=>?_) (fun cdv A outer s H vs Q E hr h=>?_)
 . obtain ⟨t,dx,w,tw,lr,lp,ld,fs,m,ps,rs,rv,pv,p,k,c,n,cs,rfl,_⟩:=h
   rfl
 . obtain ⟨t,dx,w,tw,lr,lp,ld,fs,m,ps,rs,rv,pv,p,k,c,n,cs,rfl,ht,fw,fr,W,hp,hk,hc,c2,c1,er,hkr,ep,ed,cl,n24,cb,q⟩:=h;refine ⟨_,(ap (aO (au G_ways_of (hr.mono (by decide)) ml.g eP.m eP.F.kp eP.b .nil (aL hq) (ag (pvl 0 m9) (ag (pvl 2 qc) (ag (au G_held_for (hr.mono (by decide)) kU.g kf.m kf.F.kp kf.b .nil (aL hq) (ag (pvl 0 m9) (ag (pvl 1 wY) (ag (pvl 2 qc) (ag (pvl 3 wW) ak)))) (hdb:=kU.d)) ak))) (hdb:=ml.d)))),?_⟩;rw [show L2.start ["tally","place","kid","given"] [V.ref t,V.int p,V.int k,V.int n]=[some (V.ref t),some (V.int p),some (V.int k),some (V.int n)] from rfl];walk_at "rd";have e:((n:Int)+1)*(c:Int) - 1=((hld c n:Nat):Int):=by
     unfold hld;have:1<=(n+1)*c:=Nat.mul_le_mul (show 1<=n+1 by omega) (show 1<=c by omega);rw [Int.natCast_sub this,Int.natCast_mul]
     rfl
   have hb:hld c n+1<=2^25:=by
     unfold hld;have h1:(n+1)*c<=25*1000000:=Nat.mul_le_mul (by omega) c1;have h2:(2:Nat)^25=33554432:=rfl;omega
   refine ⟨t,dx,w,tw,fs,m,ps,rs,p,k,c,n,rfl,ht,fw,W,hp,hk,hc,by omega,by omega,?_⟩;rw [e];exact ⟨t,dx,lr,lp,ld,fs,rv,pv,k,cs,hld c n,rfl,ht,fr,er,hk.1,hkr,ep,ed,by omega,hG (k:=25) (by omega) (by decide),cb,fun j hj=>J6 hb (by omega),q⟩
/-- what the rows of differences at these places tell -/
def sD (H:Hp) (b:List Int->Nat) (f:List Int->Nat->Int) (lds:List Addr) (kss:List (List Int)):Prop:=Paired (fun ld ks=>∃ cs:List Int,H ld=some (.lst (cs.map V.int))/\CsOk (b ks) cs (f ks)) lds kss
/-- all that is needed of a tally for what is left at a place -/
structure TalKid (H:Hp) (rs:List Road) (m p:Int) (rv:List V) (W:Int->Nat->Int) (c d:Int->Nat) (k:Int):Prop where
 k0:0<=k
 k1:k<m
 tl:aZ rs k p=some (c k:Int)
 c2:2<=c k
 c1:c k<=1000000
 wk:tx (d k) (W k)
 at_:∃ (lp ld:Addr) (pv:List V) (cs:List Int),rv[k.toNat]?=some (.ref lp)/\H lp=some (.lst (.ref ld::pv))/\H ld=some (.lst (cs.map V.int))/\CsOk 15000 cs (W k)
def frK (xs:List Int) (ob:Option Int) (c:Int->Nat) (p k:Int):Bool:=decide (xs.getD k.toNat 0*(c k:Int)=xs.getD p.toNat 0) && decide (ob≠some k)
def beK (ob:Option Int) (k:Int):Bool:=decide (ob=some k)
def zI (T:Txt K mg):Sp:=fun vs H Q _=>∃ (t dx w tw lw lb lk lr lkp:Addr) (fs:List (Str × V)) (m:Int) (ps:List Addr) (rs:List Road) (xs:List Int) (cv kv rv:List V) (p:Int) (ks:List Int) (ob:Option Int) (W:Int->Nat->Int) (c d:Int->Nat),vs=[.ref t,.int p]/\H t=some (.ins T.Tally dx fs)/\fs.lookup ("web":Str)=some (.ref w)/\fs.lookup ("weights":Str)=some (.ref lw)/\fs.lookup ("bearers":Str)=some (.ref lb)/\fs.lookup ("kids":Str)=some (.ref lk)/\fs.lookup ("rests":Str)=some (.ref lr)/\WebAt T.Web H w m tw ps rs/\H lw=some (.lst (xs.map V.int))/\(xs.length:Int)=m/\H lb=some (.lst cv)/\H lk=some (.lst kv)/\H lr=some (.lst rv)/\(0<=p/\p<m)/\cv[p.toNat]?=some (chV ob)/\kv[p.toNat]?=some (.ref lkp)/\H lkp=some (.lst (ks.map V.int))/\(∀ k∈ks,TalKid H rs m p rv W c d k)/\((ks.map fun k=>d k+1).sum:Int)<m /\
 ∀ l lds H',H l=none->Same H H'->H' l=some (.lst (lds.map V.ref))->sD H' (bts d) (rst (frK xs ob c p) (beK ob) (fun k g=>W k (hld (c k) g))) lds (sfx ks)->Q (.ref l) H'
abbrev aW:Stmt:=top 40
theorem kJ:FnScope ["tally","place","many","rests","kid","ways"] ["tally","place"] (aa aW):=FnScope.of (by kernel_rfl)
theorem gV:NmC (aa aW) "tally":=.of (by kernel_rfl)
theorem kD:NmC (aa aW) "place":=.of (by kernel_rfl)
theorem lN:NmL (aa aW) "many":=.of (by kernel_rfl)
theorem cR:NmC (aa aW) "rests":=.of (by kernel_rfl)
theorem mL:NmC (aa aW) "kid":=.of (by kernel_rfl)
theorem lz:NmC (aa aW) "ways":=.of (by kernel_rfl)
theorem mG:NmG (aa aW) "reversed":=.of (by kernel_rfl)
theorem zc:NmG (aa aW) "range":=.of (by kernel_rfl)
theorem m7:NmG (aa aW) "is_free":=.of (by kernel_rfl)
theorem dN:NmG (aa aW) "differences":=.of (by kernel_rfl)
theorem oX:NmG (aa aW) "parted":=.of (by kernel_rfl)
theorem jT:NmG (aa aW) "first_values":=.of (by kernel_rfl)
theorem AB:NmG (aa aW) "list":=.of (by kernel_rfl)
theorem IJ (T:Txt K mg) (hq:aQ (CXe P w)) {f:Addr} {fd:FuncData} (D:Df K mg "rests_of" aW ["tally","place"] f fd) {fq:Addr} {uM:FuncData} (c8:Df K mg "differences" bH ["values"] fq uM) (G_differences:FnOk P w K mg base (CXe P w) 1 fq uM ["values"] (uD T)) {d5:Addr} {ss:FuncData} (fS:Df K mg "first_values" bI ["found","many"] d5 ss) (G_first_values:FnOk P w K mg base (CXe P w) 2 d5 ss ["found","many"] (se T)) {jM:Addr} {B3:FuncData} (mi:Df K mg "is_free" dI ["tally","place","kid"] jM B3) (G_is_free:FnOk P w K mg base (CXe P w) 6 jM B3 ["tally","place","kid"] (BP T)) {lH:Addr} {Eb:FuncData} (nR:Df K mg "parted" dZ ["one","other"] lH Eb) (G_parted:FnOk P w K mg base (CXe P w) 2 lH Eb ["one","other"] (Ek T)) {fY:Addr} {wK:FuncData} (ie:Df K mg "ways_given" bK ["tally","place","kid","given"] fY wK) (G_ways_given:FnOk P w K mg base (CXe P w) 5 fY wK ["tally","place","kid","given"] (wE T)):FnOk P w K mg base (CXe P w) 7 f fd ["tally","place"] (zI T):=by
 refine D.F.okC kJ (fun vs H Q E h=>?_) (fun cdv A outer s H vs Q E hr h=>?_)
 . obtain ⟨t,dx,w,tw,lw,lb,lk,lr,lkp,fs,m,ps,rs,xs,cv,kv,rv,p,ks,ob,W,c,d,rfl,_⟩:=h
   rfl
 . obtain ⟨t,dx,w,tw,lw,lb,lk,lr,lkp,fs,m,ps,rs,xs,cv,kv,rv,p,ks,ob,W,c,d,rfl,ht,fw,fg,fb,fk,fr,WA,eg,xl,eb,ek,er0,hp,hcv,hkv,ekp,hks,dm,q⟩:=h;refine ⟨_,(aj (aw (i:=2) kJ.nd rfl (Or.inl lN.l) (dR  (dR  (pvc 0 gV) rfl) rfl)) (aj (aw (i:=3) kJ.nd rfl (Or.inr cR.l) (cg (ag (cg (ag am ak)) ak))) (aj (cq PassesOwn.never rfl (rG mG.g T.reversed (aH aM (dR  (pvc 0 gV) rfl) (pvc 1 kD) (fun _ _=>rfl))) (ax (i:=4) kJ.nd rfl (Or.inr mL.l)) (aj (aw (i:=5) kJ.nd rfl (Or.inr lz.l) (eW rfl (gr (Nc:=["given","tally","place","kid"]) 1 [0,1,4] (by decide +kernel) rfl (by decide +kernel) rfl (by show ∀ (y:Str × NameKind),y∈_->y.2=NameKind.free->(aa aW).names.lookup y.1=some NameKind.cell;decide +kernel) rfl (fun _ h=>dA h) (fun i hi=>match i,hi with|0,_=>⟨"tally",0,rfl,rfl,rfl,by decide +kernel⟩|1,_=>⟨"place",1,rfl,rfl,rfl,by decide +kernel⟩|2,_=>⟨"kid",4,rfl,rfl,rfl,by decide +kernel⟩|i+3,hi=>absurd hi (by show ¬ i+3<3;omega))) (eR zc.g T.range (ag (pvl 2 lN) ak)) (fun _ _ _ _=>(ax (i:=0) (show (["given","tally","place","kid"]:List Str).Nodup from by decide +kernel) rfl (Or.inl rfl))) (fun _ _ _ _=>g0) (fun _ _ _ _=>(au G_ways_given (hr.mono (by decide)) (by rfl) ie.m ie.F.kp ie.b .nil (aL hq) (ag (pv 1) (ag (pv 2) (ag (pv 3) (ag (pv 0) ak)))))))) (ap (bT (ul (au G_is_free (hr.mono (by decide)) m7.g mi.m mi.F.kp mi.b .nil (aL hq) (ag (pvc 0 gV) (ag (pvc 1 kD) (ag (pvc 4 mL) ak))) (hdb:=m7.d))) (ap (bw (gh PySem.F.plainAttrs_list PySem.F.slot_list_append PySem.F.type_list_append cG (pvc 3 cR) (ag (au G_differences (hr.mono (by decide)) dN.g c8.m c8.F.kp c8.b .nil (aL hq) (ag (au G_parted (hr.mono (by decide)) oX.g nR.m nR.F.kp nR.b .nil (aL hq) (ag (pvc 5 lz) (ag (au G_first_values (hr.mono (by decide)) jT.g fS.m fS.F.kp fS.b .nil (aL hq) (ag (aH aM (pvc 3 cR) (LO Gh am) (fun _ _=>rfl)) (ag (pvl 2 lN) ak)) (hdb:=jT.d)) ak)) (hdb:=oX.d)) ak) (hdb:=dN.d)) ak)))) (ap (bT (aX fG (pvc 4 mL) (aH aM (dR  (pvc 0 gV) rfl) (pvc 1 kD) (fun _ _=>rfl)) (bc _)) (ap (bw (gh PySem.F.plainAttrs_list PySem.F.slot_list_append PySem.F.type_list_append cG (pvc 3 cR) (ag (au G_differences (hr.mono (by decide)) dN.g c8.m c8.F.kp c8.b .nil (aL hq) (ag (eW rfl (gr (Nc:=["count","rests"]) 1 [3] (by decide +kernel) rfl (by decide +kernel) rfl (by show ∀ (y:Str × NameKind),y∈_->y.2=NameKind.free->(aa aW).names.lookup y.1=some NameKind.cell;decide +kernel) rfl (fun _ h=>dA h) (fun i hi=>match i,hi with|0,_=>⟨"rests",3,rfl,rfl,rfl,by decide +kernel⟩|i+1,hi=>absurd hi (by show ¬ i+1<1;omega))) (eY (pvc 5 lz)) (fun _ _ _ _=>(ax (i:=0) (show (["count","rests"]:List Str).Nodup from by decide +kernel) rfl (Or.inl rfl))) (fun _ _ _ _=>g0) (fun _ _ _ _=>(aq ke (pv 0) (aH (oH K rfl) (aH (oH K rfl) (pv 1) (LO Gh am) (fun _ _=>rfl)) am (fun _ _=>rfl))))) ak) (hdb:=dN.d)) ak)))) (ap (bw (gh PySem.F.plainAttrs_list PySem.F.slot_list_append PySem.F.type_list_append cG (pvc 3 cR) (ag (eW rfl (gr (Nc:=["difference","ways"]) 1 [5] (by decide +kernel) rfl (by decide +kernel) rfl (by show ∀ (y:Str × NameKind),y∈_->y.2=NameKind.free->(aa aW).names.lookup y.1=some NameKind.cell;decide +kernel) rfl (fun _ h=>dA h) (fun i hi=>match i,hi with|0,_=>⟨"ways",5,rfl,rfl,rfl,by decide +kernel⟩|i+1,hi=>absurd hi (by show ¬ i+1<1;omega))) (eY (aH aM (pvc 3 cR) (LO Gh am) (fun _ _=>rfl))) (fun _ _ _ _=>(ax (i:=0) (show (["difference","ways"]:List Str).Nodup from by decide +kernel) rfl (Or.inl rfl))) (fun _ _ _ _=>g0) (fun _ _ _ _=>(aq ke (aH (oH K rfl) (pv 1) am (fun _ _=>rfl)) (pv 0)))) ak)))))))))) (ap (aO (SY rfl mG.g T.reversed AB.g T.list (pvc 3 cR))))))),?_⟩;rw [show L2.start ["tally","place","many","rests","kid","ways"] [V.ref t,V.int p]=[some (V.ref t),some (V.int p),none,none,none,none] from rfl];obtain ⟨dw,wb⟩:=WA.ob;refine bD fun N0 h0=>?_;walk_at "rd";refine ⟨T.Tally,dx,fs,ht,T.cQ,T.n_web,_,fw,w,rfl,T.Web,dw,_,wb,T.kI,T.n_many,_,my _ _,h0 _ _ (bD fun N1 h1=>?_)⟩;walk_at "rd";refine ⟨aJ (by simp),fun q1 nq1=>⟨aJ (by simp),fun l nl=>h1 _ _ (bD fun N2 h2=>?_)⟩⟩;have s1:=Same.new (HO.lst [V.int 1]) nq1;have s2:=Same.new (HO.lst [V.ref q1]) nl;have nl0:H l=none:=s1.free nl;have e1:=s2 _ _ (ah (H:=H) (a:=q1) (o:=HO.lst [V.int 1]));have el:upd (upd H q1 (HO.lst [V.int 1])) l (HO.lst [V.ref q1]) l=some (.lst ([q1].map V.ref)):=ah;have s12:=s1.trans s2;generalize upd (upd H q1 (HO.lst [V.int 1])) l (HO.lst [V.ref q1])=H2 at e1 el s12 ⊢;clear s1 s2 nl nq1 h0 h1;walk_at "rd";have g:=WA.go;have m1:=g.m1;have m24:=g.m24;refine ⟨T.Tally,dx,fs,s12 _ _ ht,T.cQ,T.Nt,_,fk,ixL (s12 _ _ ek) (cL hp.1 hkv) ⟨lkp,rfl,_,SqL.of (s12 _ _ ekp),?_⟩⟩;generalize hF:rst (frK xs ob c p) (beK ob) (fun k g=>W k (hld (c k) g))=F at q;have hwo:∀ k∈ks,tx (d k) (W k):=fun k hk=>(hks k hk).wk;have hco:∀ k∈ks,1<=c k/\c k<=1000000:=fun k hk=>⟨Nat.le_trans (by decide) (hks k hk).c2,(hks k hk).c1⟩;refine nF (K:=K) (xs:=ks.map V.int) (fun i σ H3=>Same H H3/\(∃ (lds:List Addr) (ld:Addr),H3 l=some (.lst ((lds++[ld]).map V.ref))/\sD H3 (bts d) F (lds++[ld]) ((List.range (i+1)).map fun j=>ks.drop (ks.length - j)))/\∃ v4 v5,σ=[some (V.ref t),some (V.int p),some (V.int m),some (V.ref l),v4,v5]) ?_ (fun i σ H3 _ z=>SqL.of (z.1 _ _ ekp)) ?_ ?_
   . refine ⟨s12,⟨[],q1,el,.cons ⟨[1],e1,?_⟩ .nil⟩,_,_,rfl⟩;have e:ks.drop (ks.length - 0)=[]:=(by rw [Nat.sub_zero,List.drop_length]);show CsOk (bts d (ks.drop (ks.length - 0))) [1] (F (ks.drop (ks.length - 0)));rw [e,<- hF];exact CsOk.one
   . rintro i x σ H3 N hN hx ⟨s3,⟨lds,ld,e3,ra⟩,v4,v5,rfl⟩;rw [<- List.map_reverse] at hx;obtain ⟨k,hk,rfl⟩:=List.getElem?_map_some hx;have il:i<ks.length:=by
       have:=(List.getElem?_eq_some_iff.mp hk).1;rw [List.length_reverse] at this;exact this
     have hk':ks[ks.length - 1 - i]?=some k:=by
       rw [List.getElem?_reverse il] at hk;exact hk
     have eS:ks.drop (ks.length - (i+1))=k::ks.drop (ks.length - i):=by
       rw [show ks.length - (i+1)=ks.length - 1 - i by omega,List.drop_eq_getElem_cons (by omega),(List.getElem?_eq_some_iff.mp hk').2,show ks.length - 1 - i+1=ks.length - i by omega]
     have km:=List.mem_of_getElem? hk';have tk:=hks k km;obtain ⟨kp,kd,pv,cs,k1',k2,k3,kc⟩:=tk.at_;have sub:∀ x∈k::ks.drop (ks.length - i),x∈ks:=fun x hx=>by
       rw [<- eS] at hx;exact List.mem_of_mem_drop hx
     have dS:((k::ks.drop (ks.length - i)).map fun k=>d k+1).sum<m.toNat:=by
       rw [<- eS];have:=AU (fun k=>d k+1) ks (ks.length - (i+1));omega
     have er:(List.range (i+1+1)).map (fun j=>ks.drop (ks.length - j))=((List.range (i+1)).map fun j=>ks.drop (ks.length - j))++[k::ks.drop (ks.length - i)]:=(by rw [List.range_succ,List.map_append,<- eS];rfl);obtain ⟨cS,eld,hcS⟩:∃ cS:List Int,H3 ld=some (.lst (cS.map V.int))/\CsOk (bts d (ks.drop (ks.length - i))) cS (F (ks.drop (ks.length - i))):=by
       have:=ra;unfold sD at this;rw [List.range_succ,List.map_append] at this;obtain ⟨l0,a0,h2,_,h4⟩:=BA this;have h5:=(List.cons.inj (List.append_inj' h2 rfl).2).1;rw [h5];exact h4
     generalize ks.drop (ks.length - i)=S at sub dS er hcS eS;have lnd:∀ {y:Addr} {zs:List Int},zs≠[]->H3 y=some (.lst (zs.map V.int))->y≠l:=fun {y zs} zn hy z=>by
       rw [z,e3] at hy;injection hy with hy
       injection hy with hy
       cases zs with
       | nil=>exact zn rfl
       | cons z0 zs =>
         cases lds with
         | nil=>cases (List.cons.inj hy).1
         | cons _ _=>cases (List.cons.inj hy).1
     have more:∀ (y:Addr) (cs':List Int) (H5:Hp),Same H3 H5->H5 y=some (.lst (cs'.map V.int))->CsOk (bts d (k::S)) cs' (F (k::S))->(lds++[ld]).length<sizeLine->∀ v5,tyV K "list" (V.ref l) H5/\rAppend (V.ref l) [V.ref y] H5 fun _ H6=>N [some (V.ref t),some (V.int p),some (V.int m),some (V.ref l),some (V.int k),v5] H6:=by
       intro y cs' H5 s5 ey hcs' sz v5;have e5:=s5 _ _ e3;refine ⟨tyL e5,pN e5 (by rw [List.length_map];exact sz) (hN _ _ ⟨fun b o e=>?_,⟨lds++[ld],y,by rw [ah,List.map_append (l₂:=[y])];rfl,?_⟩,_,_,rfl⟩)⟩
       . rw [ao (ay e nl0)];exact s5 _ _ (s3 _ _ e)
       . rw [er];have yl:y≠l:=fun z=>by
           rw [z,e5] at ey;injection ey with ey
           injection ey with ey
           cases cs' with
           | nil=>exact hcs'.ne rfl
           | cons z0 zs =>
             cases lds with
             | nil=>cases (List.cons.inj ey).1
             | cons _ _=>cases (List.cons.inj ey).1
         refine vy ⟨cs',by rw [ao yl];exact ey,hcs'⟩ (Paired.imp' (fun b kk ⟨cb,h1,h2⟩=>⟨cb,?_,h2⟩) ra);rw [ao (lnd h2.ne h1)];exact s5 _ _ h1
     have lsz:(lds++[ld]).length<sizeLine:=by
       have:=Paired.length ra;rw [List.length_map,List.length_range] at this;exact bG (by have:=AU (fun k=>d k+1) ks 0;have:ks.length<=(ks.map fun k=>d k+1).sum:=G9 ks;omega)
     refine bD fun M1 k1=>?_;walk_at "rd";refine ⟨by omega,by omega,fun pw npw=>?_⟩;have big:∀ {b:Nat} {z:Int},b<=15000->z.natAbs<=2^b->z.natAbs<BIG:=fun {b z} hb hz=>hG hz (by omega);refine j8 (lo:=0) (n:=m.toNat) (fun j ys σ H4=>Same H3 H4/\H4 pw=some (.lst ys)/\ys=((List.range j).map fun g=>W k (hld (c k) g)).map V.int/\∃ v,σ=[v,some (V.ref t),some (V.int p),some (V.int k)]) ⟨Same.new _ npw,ah,rfl,_,rfl⟩ ?_ ?_
     . rintro j ys σ H4 N4 hN4 hj ⟨s4,e4,rfl,v,rfl⟩;walk_at "rd";have s34:=s3.trans s4;refine ⟨t,dx,w,tw,lr,kp,kd,fs,m,ps,rs,rv,pv,p,k,c k,j,cs,by rw [Int.zero_add],s34 _ _ ht,fw,fr,WA.same s34,hp,⟨tk.k0,tk.k1⟩,tk.tl,tk.c2,tk.c1,s34 _ _ er0,k1',s34 _ _ k2,s34 _ _ k3,kc.len,by omega,fun x hx=>big (Nat.le_refl _) (kc.bt x hx),fun H5 s5=>⟨s5 _ _ e4,bG (by rw [List.length_map,List.length_map,List.length_range];omega),hN4 _ _ _ ⟨?_,ah,?_,_,rfl⟩⟩⟩
       . exact fun b o e=>by rw [ao (ay e npw)];exact s5 _ _ (s4 _ _ e)
       . rw [List.range_succ,List.map_append,List.map_append,kc.val]
         rfl
     . rintro ys σ H4 ⟨s4,e4,rfl,v,rfl⟩;refine k1 _ _ ?_;have s34:=s3.trans s4;have wsm:∀ j,j<m.toNat->(W k (hld (c k) j)).natAbs<=2^(d k*(25+20*d k)):=fun j hj=>md (Gf tk.wk (Nat.le_trans (by decide) tk.c2) tk.c1 (by omega));have dk23:d k*(25+20*d k)<=15000:=by
         have:=B0 (d:=d) (ks:=k::S) (by omega);rw [vQ] at this;omega
       have wbig:∀ x∈(List.range m.toNat).map fun g=>W k (hld (c k) g),x.natAbs<BIG:=fun x hx=>by
         obtain ⟨j,hj,rfl⟩:=List.mem_map.mp hx;exact big dk23 (wsm j (List.mem_range.mp hj))
       have bS:bts d S<=15000:=B0 (by rw [List.map_cons,List.sum_cons] at dS;omega);have hlast:∀ {H5:Hp},Same H4 H5->atI ((lds++[ld]).map V.ref) (-1)=some (V.ref ld):=fun _=>by rw [List.map_append];exact SQ _ _
       have hwS:∀ x∈k::S,tx (d x) (W x):=fun x hx=>hwo x (sub x hx);have hcS':∀ x∈k::S,1<=c x/\c x<=1000000:=fun x hx=>hco x (sub x hx);walk_at "rd";refine ⟨t,dx,w,tw,lw,lb,fs,m,ps,rs,xs,cv,p,k,c k,ob,rfl,s34 _ _ ht,fw,fg,fb,WA.same s34,s34 _ _ eg,xl,s34 _ _ eb,hp,⟨tk.k0,tk.k1⟩,hcv,tk.tl,by have:=tk.c2;omega,by have:=tk.c1;omega,⟨_,rfl,?_⟩⟩;subst hF;change if frK xs ob c p k=true then _ else _;have eN:((m.toNat:Nat):Int)=m:=Int.toNat_of_nonneg (by omega);have N1':m.toNat<=24:=(by omega);have e3':=s4 _ _ e3;have eld':=s4 _ _ eld;have wlen:((List.range m.toNat).map fun g=>W k (hld (c k) g)).length=m.toNat:=(by rw [List.length_map,List.length_range]);by_cases hf:frK xs ob c p k=true
       . rw [if_pos hf];refine ⟨tyL e3',ixL e3' (hlast (Same.refl _)) ⟨ld,cS,m.toNat,by rw [eN],SqL.of eld',by have:=hcS.len;omega,by omega,fun x hx=>big bS (hcS.bt x hx),fun l5 H5 n5 s5 e5=>?_⟩⟩;refine ⟨pw,l5,_,_,rfl,SqL.of (s5 _ _ e4),SqL.of e5,by rw [wlen,List.length_map,List.length_range];exact Nat.le_refl _,by rw [wlen];omega,wbig,fun x hx=>?_,fun l6 H6 n6 s6 e6=>?_⟩
         . obtain ⟨j,hj,rfl⟩:=List.mem_map.mp hx;rw [hcS.val];exact big (Nat.le_trans (Dl d S) bS) (md (D8 N1' (fun x hx=>hwS x (.tail _ hx)) (fun x hx=>hcS' x (.tail _ hx)) j (List.mem_range.mp hj)))
         . refine ⟨l6,_,rfl,SqL.of e6,by rw [List.length_map,List.length_range,wlen];omega,fun l7 H7 n7 s7 e7=>(more l7 _ H7 (s4.trans (s5.trans (s6.trans s7))) e7 ?_ lsz _).2⟩;refine Ol N1' hwS hcS' dS ?_;rw [wlen];refine List.map_congr_left fun n hn=>?_;have hn:=List.mem_range.mp hn;rw [nV hf];exact MQ (fun i hi=>vg (by omega)) fun i hi=>by rw [vg (by omega),hcS.val]
       . rw [if_neg hf];refine ⟨T.Tally,dx,fs,s34 _ _ ht,T.cQ,T.xk,_,fb,ixL (s34 _ _ eb) (cL hp.1 hcv) ⟨by cases ob <;> rfl,?_⟩⟩;obtain ⟨rS,eh⟩:=hcS.head;by_cases hb:ob=some k
         . rw [if_pos (by rw [hb];rfl)];have hb':beK ob k=true:=decide_eq_true hb;refine ⟨tyL e3',⟨_,SqL.of e4⟩,fun pc npc=>?_⟩;refine lU (K:=K) (c:=true) (a:=pw) (xs:=((List.range m.toNat).map fun g=>W k (hld (c k) g)).map V.int) (fun j ys σ H5=>Same H4 H5/\H5 pc=some (.lst ys)/\ys=((((List.range m.toNat).map fun g=>W k (hld (c k) g)).take j).map fun x=>x*rst (frK xs ob c p) (beK ob) (fun k g=>W k (hld (c k) g)) S 0).map V.int/\∃ v,σ=[v,some (V.ref l)]) ⟨Same.new _ npc,ah,rfl,_,rfl⟩ (fun j ys σ H5 _ ⟨z,_⟩=>SqL.of (z _ _ e4)) ?_ ?_
           . rintro j x ys σ H5 N5 hN5 hj ⟨s5,e5,rfl,v,rfl⟩;obtain ⟨z,hz,rfl⟩:=List.getElem?_map_some hj;have et:((List.range m.toNat).map fun g=>W k (hld (c k) g)).take (j+1)=((List.range m.toNat).map fun g=>W k (hld (c k) g)).take j++[z]:=(by rw [List.take_succ,hz];rfl);walk_at "rd";refine ixL (s5 _ _ e3') (hlast (Same.refl _)) (ixL (v:=V.int (rst (frK xs ob c p) (beK ob) (fun k g=>W k (hld (c k) g)) S 0)) (s5 _ _ eld') (cL (Int.le_refl 0) (by rw [eh];rfl)) ⟨_,rfl,jY (wbig z (List.mem_of_getElem? hz)) (big bS (hcS.bt _ (by rw [eh];exact .head _))),e5,bG (by rw [List.length_map,List.length_map,List.length_take,wlen];omega),hN5 _ _ _ ⟨?_,ah,?_,_,rfl⟩⟩)
             . exact fun b o e=>by rw [ao (ay e npc)];exact s5 _ _ e
             . rw [et,List.map_append,List.map_append]
               rfl
           . rintro ys σ H5 ⟨s5,e5,rfl,v,rfl⟩;rw [List.length_map,wlen,List.take_of_length_le (by rw [wlen];exact Nat.le_refl _)] at e5;refine ⟨pc,_,rfl,SqL.of e5,by rw [List.length_map,wlen];omega,fun l7 H7 n7 s7 e7=>(more l7 _ H7 (s4.trans (s5.trans s7)) e7 ?_ lsz _).2⟩;refine Ol N1' hwS hcS' dS ?_;rw [List.map_map];refine List.map_congr_left fun n hn=>?_;rw [nY hf hb']
             rfl
         . rw [if_neg (fun z=>hb (by cases ob with
             | none=>cases z
             | some j=>injection z with z;rw [z]))]
           have hb':¬ beK ob k=true:=(by unfold beK;rw [decide_eq_true_eq];exact hb);have hm0:m.toNat=(m.toNat - 1)+1:=(by omega);have w0:∀ {H5:Hp},Same H4 H5->H5 pw=some (.lst (((List.range m.toNat).map fun g=>W k (hld (c k) g)).map V.int)):=fun s=>s _ _ e4;have a0:atI (((List.range m.toNat).map fun g=>W k (hld (c k) g)).map V.int) 0=some (V.int (W k (hld (c k) 0))):=cL (Int.le_refl 0) (by
             show (((List.range m.toNat).map fun g=>W k (hld (c k) g)).map V.int)[0]?=_;rw [List.getElem?_map,List.getElem?_map,List.getElem?_range (by omega)]
             rfl)
           refine ⟨tyL e3',ixL e3' (hlast (Same.refl _)) ⟨ld,rfl,⟨_,SqL.of eld'⟩,fun pc npc=>?_⟩⟩;refine lU (K:=K) (c:=true) (a:=ld) (xs:=cS.map V.int) (fun j ys σ H5=>Same H4 H5/\H5 pc=some (.lst ys)/\ys=((cS.take j).map fun x=>W k (hld (c k) 0)*x).map V.int/\∃ v,σ=[v,some (V.ref pw)]) ⟨Same.new _ npc,ah,rfl,_,rfl⟩ (fun j ys σ H5 _ ⟨z,_⟩=>SqL.of (z _ _ eld')) ?_ ?_
           . rintro j x ys σ H5 N5 hN5 hj ⟨s5,e5,rfl,v,rfl⟩;obtain ⟨z,hz,rfl⟩:=List.getElem?_map_some hj;have et:cS.take (j+1)=cS.take j++[z]:=(by rw [List.take_succ,hz];rfl);have cl:=hcS.len;walk_at "rd";refine ixL (w0 s5) a0 ⟨_,rfl,jY (big dk23 (wsm 0 (by omega))) (big bS (hcS.bt z (List.mem_of_getElem? hz))),e5,bG (by rw [List.length_map,List.length_map,List.length_take];omega),hN5 _ _ _ ⟨?_,ah,?_,_,rfl⟩⟩
             . exact fun b o e=>by rw [ao (ay e npc)];exact s5 _ _ e
             . rw [et,List.map_append,List.map_append]
               rfl
           . rintro ys σ H5 ⟨s5,e5,rfl,v,rfl⟩;rw [List.length_map,List.take_length] at e5;exact (more pc _ H5 (s4.trans s5) e5 (SE tk.wk (Nat.le_trans (by decide) tk.c2) tk.c1 hf hb' hcS) lsz _).2
   . rintro σ H3 ⟨s3,⟨lds,ld,e3,ra⟩,v4,v5,rfl⟩;refine h2 _ _ ?_;unfold RK;walk_at "rd";rw [List.length_map] at ra;refine ⟨_,SqL.of e3,fun l2 nl2=>?_⟩;have s4:=Same.new (HO.lst ((lds++[ld]).map V.ref).reverse) nl2;refine q l2 (lds++[ld]).reverse _ (s3.free nl2) (s3.trans s4) (by rw [ah,List.map_reverse]) ?_;have e:sfx ks=((List.range (ks.length+1)).map fun j=>ks.drop (ks.length - j)).reverse:=(by rw [<- Kg,List.reverse_reverse]);rw [e];exact Kp (Paired.imp' (fun b kk ⟨cb,h1,h2⟩=>⟨cb,s4 _ _ h1,h2⟩) ra)
/-- the fields of a tally -/
def gd (p ld lw lb lk lr:Addr):List (Str × V):=ar "rests" (.ref lr) (ar "kids" (.ref lk) (ar "bearers" (.ref lb) (ar "weights" (.ref lw) (ar "down" (.ref ld) (ar "web" (.ref p) [])))))
theorem tU (p ld lw lb lk lr:Addr):(gd p ld lw lb lk lr).lookup ("rests":Str)=some (.ref lr):=by
 unfold gd;rw [aE,if_pos rfl]
theorem Lp (p ld lw lb lk lr:Addr):(gd p ld lw lb lk lr).lookup ("kids":Str)=some (.ref lk):=by
 unfold gd;rw [aE,if_neg (by decide +kernel),aE,if_pos rfl]
theorem EJ (p ld lw lb lk lr:Addr):(gd p ld lw lb lk lr).lookup ("bearers":Str)=some (.ref lb):=by
 unfold gd;rw [aE,if_neg (by decide +kernel),aE,if_neg (by decide +kernel),aE,if_pos rfl]
theorem EU (p ld lw lb lk lr:Addr):(gd p ld lw lb lk lr).lookup ("weights":Str)=some (.ref lw):=by
 unfold gd;rw [aE,if_neg (by decide +kernel),aE,if_neg (by decide +kernel),aE,if_neg (by decide +kernel),aE,if_pos rfl]
theorem Ll (p ld lw lb lk lr:Addr):(gd p ld lw lb lk lr).lookup ("down":Str)=some (.ref ld):=by
 unfold gd;rw [aE,if_neg (by decide +kernel),aE,if_neg (by decide +kernel),aE,if_neg (by decide +kernel),aE,if_neg (by decide +kernel),aE,if_pos rfl]
theorem Oe (p ld lw lb lk lr:Addr):(gd p ld lw lb lk lr).lookup ("web":Str)=some (.ref p):=by
 unfold gd;rw [aE,if_neg (by decide +kernel),aE,if_neg (by decide +kernel),aE,if_neg (by decide +kernel),aE,if_neg (by decide +kernel),aE,if_neg (by decide +kernel),aE,if_pos rfl]
def frW (m:Int) (rs:List Road) (r:Int) (par:Int->Int) (dep:Int->Nat) (tl:List Int) (k:Int):Bool:=decide (wgt m rs r par dep k*tup rs par k=wgt m rs r par dep (par k)) && decide (bea m rs r par dep tl (par k)≠some k)
def beW (m:Int) (rs:List Road) (r:Int) (par:Int->Int) (dep:Int->Nat) (tl:List Int) (k:Int):Bool:=decide (bea m rs r par dep tl (par k)=some k)
def cK (rs:List Road) (par:Int->Int) (k:Int):Nat:=(tup rs par k).toNat
/-- in how many ways what lies beneath v can hold -/
def wyT (m:Int) (rs:List Road) (r:Int) (par:Int->Int) (dep:Int->Nat) (tl:List Int) (v:Int):Nat->Int:=wy m rs r par dep (frW m rs r par dep tl) (beW m rs r par dep tl) (cK rs par) v
/-- a tally stands at o;S: the places whose rests are told -/
structure TalAt (C O:Addr) (H:Hp) (o p t:Addr) (m:Int) (ps:List Addr) (rs:List Road) (r:Int) (par:Int->Int) (dep:Int->Nat) (tl:List Int) (ld lw lb lk lr:Addr) (kl:List Addr) (rv:List V) (S:Int->Prop):Prop where
 ob:∃ dx,H o=some (.ins O dx (gd p ld lw lb lk lr))
 web:WebAt C H p m t ps rs
 rt:Rooted m rs r par dep
 et:bj m rs r par dep r=r::tl
 or:Order m r par tl
 hd:H ld=some (.lst ((bj m rs r par dep r).map V.int))
 hw:H lw=some (.lst ((ic m rs r par dep).map V.int))
 hb:H lb=some (.lst (chL m (bea m rs r par dep tl)))
 hk:H lk=some (.lst (kl.map V.ref))
 kp:Paired (fun a v=>H a=some (.lst ((kd m rs r par v).map V.int))) kl (below m.toNat)
 hr:H lr=some (.lst rv)
 rl:rv.length=m.toNat
 rn:∀ x∈rv,x=.non\/∃ a,x=.ref a
 done_:∀ v,S v->0<=v/\∃ (lp:Addr) (lds:List Addr),rv[v.toNat]?=some (.ref lp)/\lp≠lr/\H lp=some (.lst (lds.map V.ref))/\sD H (bts (dgr m rs r par dep)) (rst (frW m rs r par dep tl) (beW m rs r par dep tl) (fun k g=>wyT m rs r par dep tl k (hld (cK rs par k) g))) lds (sfx (kd m rs r par v))
theorem TalAt.same {C O:Addr} {H H':Hp} {o p t:Addr} {m:Int} {ps:List Addr} {rs:List Road} {r:Int} {par:Int->Int} {dep:Int->Nat} {tl:List Int} {ld lw lb lk lr:Addr} {kl:List Addr} {rv:List V} {S:Int->Prop} (e:Same H H') (h:TalAt C O H o p t m ps rs r par dep tl ld lw lb lk lr kl rv S):TalAt C O H' o p t m ps rs r par dep tl ld lw lb lk lr kl rv S where
 ob:=let ⟨dx,q⟩:=h.ob;⟨dx,e _ _ q⟩
 web:=h.web.same e
 rt:=h.rt
 et:=h.et
 or:=h.or
 hd:=e _ _ h.hd
 hw:=e _ _ h.hw
 hb:=e _ _ h.hb
 hk:=e _ _ h.hk
 kp:=Paired.imp' (fun _ _ z=>e _ _ z) h.kp
 hr:=e _ _ h.hr
 rl:=h.rl
 rn:=h.rn
 done_:=fun v hv=>let ⟨v0,lp,lds,h1,h2,h3,h4⟩:=h.done_ v hv;⟨v0,lp,lds,h1,h2,e _ _ h3,Paired.imp' (fun _ _ ⟨cs,a,b⟩=>⟨cs,e _ _ a,b⟩) h4⟩
theorem WebAt.kptT {C O:Addr} {H H':Hp} {o p:Addr} {m:Int} {t dx:Addr} {ps:List Addr} {rs:List Road} (e:Kpt o H H') (ho:H o=some (.ins O dx [])) (h:WebAt C H p m t ps rs):WebAt C H' p m t ps rs :=
 ⟨let ⟨dx,q⟩:=h.ob;⟨dx,e _ _ q (dh q ho (by intro z;cases z))⟩,e _ _ h.tu (dh h.tu ho (by intro z;cases z)),Paired.imp' (fun q x z=>e _ _ z (dh z ho (by intro z;cases z))) h.ro,h.go⟩
theorem TalAt.put {C O:Addr} {H:Hp} {o p t:Addr} {m:Int} {ps:List Addr} {rs:List Road} {r:Int} {par:Int->Int} {dep:Int->Nat} {tl:List Int} {ld lw lb lk lr:Addr} {kl:List Addr} {rv:List V} {S:Int->Prop} (h:TalAt C O H o p t m ps rs r par dep tl ld lw lb lk lr kl rv S) (hld:ld≠lr) (hlw:lw≠lr) (hlb:lb≠lr) (hlk:lk≠lr) (hkl:∀ q∈kl,q≠lr) {v:Int} (v0:0<=v) (v1:v<m) (hS:∀ c,S c->c≠v) {l:Addr} {lds:List Addr} (nl:l≠lr) (hl:H l=some (.lst (lds.map V.ref))) (ra:sD H (bts (dgr m rs r par dep)) (rst (frW m rs r par dep tl) (beW m rs r par dep tl) (fun k g=>wyT m rs r par dep tl k (Pb.hld (cK rs par k) g))) lds (sfx (kd m rs r par v))) :
   TalAt C O (upd H lr (.lst (rv.set v.toNat (.ref l)))) o p t m ps rs r par dep tl ld lw lb lk lr kl (rv.set v.toNat (.ref l)) (fun c=>c=v\/S c):=by
 have vm:v.toNat<rv.length:=by rw [h.rl];omega
 have ne:∀ {y:Addr} {cs:List Int},cs≠[]->H y=some (.lst (cs.map V.int))->y≠lr:=fun {y cs} cn hy z=>by
   rw [z,h.hr] at hy;injection hy with hy
   injection hy with hy
   cases cs with
   | nil=>exact cn rfl
   | cons c0 cs =>
     rcases h.rn (.int c0) (by rw [hy];exact .head _) with e|⟨_,e⟩ <;> cases e
 have up:∀ {b:Addr} {x:HO},H b=some x->b≠lr->upd H lr (.lst (rv.set v.toNat (.ref l))) b=some x:=fun e n=>by rw [ao n];exact e
 have rup:∀ {lds:List Addr} {kss:List (List Int)} {b:List Int->Nat} {f:List Int->Nat->Int},sD H b f lds kss->sD (upd H lr (.lst (rv.set v.toNat (.ref l)))) b f lds kss:=fun hra=>Paired.imp' (fun y kk ⟨cs,h1,h2⟩=>⟨cs,up h1 (ne h2.ne h1),h2⟩) hra;obtain ⟨dx,ob⟩:=h.ob;have W:=h.web;obtain ⟨dw,wb⟩:=W.ob;refine ⟨⟨dx,up ob (dh ob h.hr (by intro z;cases z))⟩,⟨⟨dw,up wb (dh wb h.hr (by intro z;cases z))⟩,up W.tu (dh W.tu h.hr (by intro z;cases z)),Paired.imp' (fun q x e=>up e (dh e h.hr (by intro z;cases z))) W.ro,W.go⟩,h.rt,h.et,h.or,up h.hd hld,up h.hw hlw,up h.hb hlb,up h.hk hlk,DA (fun q x hq e=>up e (hkl q hq)) h.kp,ah,by rw [List.length_set];exact h.rl,fun x hx=>?_,fun u hu=>?_⟩
 . rcases List.mem_or_eq_of_mem_set hx with hx|rfl
   . exact h.rn x hx
   . exact .inr ⟨l,rfl⟩
 . rcases hu with rfl|hu
   . exact ⟨v0,l,lds,List.getElem?_set_self vm,nl,up hl nl,rup ra⟩
   . obtain ⟨u0,lp,lds',h1,h2,h3,h4⟩:=h.done_ u hu;refine ⟨u0,lp,lds',?_,h2,up h3 h2,rup h4⟩;rw [List.getElem?_set_ne (by have:=hS u hu;omega)];exact h1
def qm (T:Txt K mg):Sp:=fun vs H Q _=>∃ (o dx p t:Addr) (m:Int) (ps:List Addr) (rs:List Road) (r:Int),vs=[.ref o,.ref p,.int r]/\H o=some (.ins T.Tally dx [])/\WebAt T.Web H p m t ps rs/\(0<=r/\r<m) /\
 ∃ par dep,Rooted m rs r par dep/\∀ tl ld lw lb lk lr kl rv H',TalAt T.Web T.Tally H' o p t m ps rs r par dep tl ld lw lb lk lr kl rv (fun v=>0<=v/\v<m)->(∀ b x,H b=some x->b≠o->H' b=some x)->Q .non H'
abbrev aD:Stmt:=Ku (top 39) 0
theorem qj:FnScope ["self","web","r","place"] ["self","web","r"] (aa aD):=FnScope.of (by kernel_rfl)
theorem bi:NmL (aa aD) "self":=.of (by kernel_rfl)
theorem cC:NmC (aa aD) "web":=.of (by kernel_rfl)
theorem gb:NmL (aa aD) "r":=.of (by kernel_rfl)
theorem gn:NmL (aa aD) "place":=.of (by kernel_rfl)
theorem kY:NmG (aa aD) "down":=.of (by kernel_rfl)
theorem gm:NmG (aa aD) "least_weights":=.of (by kernel_rfl)
theorem jA:NmG (aa aD) "bearers":=.of (by kernel_rfl)
theorem o0:NmG (aa aD) "enumerate":=.of (by kernel_rfl)
theorem kq:NmG (aa aD) "ahead":=.of (by kernel_rfl)
theorem pD:NmG (aa aD) "reversed":=.of (by kernel_rfl)
theorem i9:NmG (aa aD) "rests_of":=.of (by kernel_rfl)
theorem zz (T:Txt K mg) (hq:aQ (CXe P w)) {f:Addr} {fd:FuncData} (F:Fun K "__init__" "Tally.__init__" aD f fd) {fM:Addr} {jG:FuncData} (dG:Df K mg "ahead" cN ["web","r"] fM jG) (G_ahead:FnOk P w K mg base (CXe P w) 5 fM jG ["web","r"] (vV T)) {jW:Addr} {Bf:FuncData} (mj:Df K mg "bearers" bR ["web","r"] jW Bf) (G_bearers:FnOk P w K mg base (CXe P w) 9 jW Bf ["web","r"] (Bk T)) {lg:Addr} {uE:FuncData} (jN:Df K mg "down" dE ["web","r"] lg uE) (G_down:FnOk P w K mg base (CXe P w) 6 lg uE ["web","r"] (Dg T)) {g6:Addr} {me:FuncData} (fB:Df K mg "kids" fZ ["web","place","front"] g6 me) (G_kids:FnOk P w K mg base (CXe P w) 4 g6 me ["web","place","front"] (y0 T)) {b9:Addr} {fW:FuncData} (bN:Df K mg "least_weights" aN ["web","r"] b9 fW) (G_least_weights:FnOk P w K mg base (CXe P w) 8 b9 fW ["web","r"] (lX T)) {iI:Addr} {zD:FuncData} (j6:Df K mg "rests_of" aW ["tally","place"] iI zD) (G_rests_of:FnOk P w K mg base (CXe P w) 7 iI zD ["tally","place"] (zI T)):FnOk P w K mg base (CXe P w) 10 f fd ["self","web","r"] (qm T):=by
 refine F.okC qj (fun vs H Q E h=>?_) (fun cdv A outer s H vs Q E hr h=>?_)
 . obtain ⟨o,dx,p,t,m,ps,rs,r,rfl,_⟩:=h
   rfl
 . obtain ⟨o,dx,p,t,m,ps,rs,r,rfl,ho,W,rr,par,dep,R,k⟩:=h;have g:=W.go;have m24:=g.m24;refine ⟨_,(aj (oW (pvl 0 bi) (pvc 1 cC) rfl) (aj (oW (pvl 0 bi) (au G_down (hr.mono (by decide)) kY.g jN.m jN.F.kp jN.b .nil (aL hq) (ag (pvc 1 cC) (ag (pvl 2 gb) ak)) (hdb:=kY.d)) rfl) (aj (oW (pvl 0 bi) (au G_least_weights (hr.mono (by decide)) gm.g bN.m bN.F.kp bN.b .nil (aL hq) (ag (pvc 1 cC) (ag (pvl 2 gb) ak)) (hdb:=gm.d)) rfl) (aj (oW (pvl 0 bi) (au G_bearers (hr.mono (by decide)) jA.g mj.m mj.F.kp mj.b .nil (aL hq) (ag (pvc 1 cC) (ag (pvl 2 gb) ak)) (hdb:=jA.d)) rfl) (aj (oW (pvl 0 bi) (eW rfl (gr (Nc:=["place","front","web"]) 2 [1] (by decide +kernel) rfl (by decide +kernel) rfl (by show ∀ (y:Str × NameKind),y∈_->y.2=NameKind.free->(aa aD).names.lookup y.1=some NameKind.cell;decide +kernel) rfl (fun _ h=>dA h) (fun i hi=>match i,hi with|0,_=>⟨"web",1,rfl,rfl,rfl,by decide +kernel⟩|i+1,hi=>absurd hi (by show ¬ i+1<1;omega))) (Kx true o0.g T.enumerate (au G_ahead (hr.mono (by decide)) kq.g dG.m dG.F.kp dG.b .nil (aL hq) (ag (pvc 1 cC) (ag (pvl 2 gb) ak)) (hdb:=kq.d))) (fun _ _ _ _=>(JX K rfl (n:=2) rfl (aF (ax (i:=0) (show (["place","front","web"]:List Str).Nodup from by decide +kernel) rfl (Or.inl rfl)) (aF (ax (i:=1) (show (["place","front","web"]:List Str).Nodup from by decide +kernel) rfl (Or.inl rfl)) eX)))) (fun _ _ _ _=>g0) (fun _ _ _ _=>(au G_kids (hr.mono (by decide)) (by rfl) fB.m fB.F.kp fB.b .nil (aL hq) (ag (pv 2) (ag (pv 0) (ag (pv 1) ak)))))) rfl) (aj (oW (pvl 0 bi) (aq yg (cg (ag BT ak)) (dR  (pvc 1 cC) rfl)) rfl) (ap (cq PassesOwn.never rfl (rG pD.g T.reversed (dR  (pvl 0 bi) rfl)) (ax (i:=3) qj.nd rfl (Or.inl gn.l)) (ap (lf (au G_rests_of (hr.mono (by decide)) i9.g j6.m j6.F.kp j6.b .nil (aL hq) (ag (pvl 0 bi) (ag (pvl 3 gn) ak)) (hdb:=i9.d)) (rJ (dR  (pvl 0 bi) rfl) (pvl 3 gn) lK))))))))))),?_⟩;rw [show L2.start ["self","web","r","place"] [V.ref o,V.ref p,V.int r]=[some (V.ref o),some (V.ref p),some (V.int r),none] from rfl];walk_at "rd";refine ⟨T.Tally,dx,[],ho,T.cQ,T.n_web,by decide,?_⟩;have k1:Kpt o H (upd H o (.ins T.Tally dx (ar "web" (.ref p) []))):=Kpt.refl.put _;have o1:upd H o (.ins T.Tally dx (ar "web" (.ref p) [])) o=some (.ins T.Tally dx (ar "web" (.ref p) [])):=ah;generalize upd H o (.ins T.Tally dx (ar "web" (.ref p) []))=H1 at k1 o1 ⊢;refine ⟨p,t,m,ps,rs,r,rfl,W.kptT k1 ho,fun _ _=>⟨par,dep,R,fun ld H2 n2 s2 e2 nd2 al2=>?_⟩,fun z=>absurd rr z⟩;dsimp only;have no2:∀ {a:Addr} {G:Hp} {x:HO},G o=some x->G a=none->a≠o:=fun h1 h2 z=>by rw [z,h1] at h2;cases h2
   refine ⟨T.Tally,dx,_,s2 _ _ o1,T.cQ,T.Nm,by show 1<1000;decide,?_⟩;have ldo:ld≠o:=no2 o1 n2;have k3:=(k1.then s2).put (.ins T.Tally dx (ar "down" (.ref ld) (ar "web" (.ref p) [])));have o3:upd H2 o (.ins T.Tally dx (ar "down" (.ref ld) (ar "web" (.ref p) []))) o=some (.ins T.Tally dx (ar "down" (.ref ld) (ar "web" (.ref p) []))):=ah;have e3:upd H2 o (.ins T.Tally dx (ar "down" (.ref ld) (ar "web" (.ref p) []))) ld=_:=(ao ldo).trans e2;generalize upd H2 o (.ins T.Tally dx (ar "down" (.ref ld) (ar "web" (.ref p) [])))=H3 at k3 o3 e3 ⊢;refine ⟨p,t,m,ps,rs,r,rfl,W.kptT k3 ho,fun _ _=>⟨par,dep,R,fun lw H4 n4 s4 e4=>?_⟩,fun z=>absurd rr z⟩;refine ⟨T.Tally,dx,_,s4 _ _ o3,T.cQ,T.n_weights,by show 2<1000;decide,?_⟩;have lwo:lw≠o:=no2 o3 n4;have k5:=(k3.then s4).put (.ins T.Tally dx (ar "weights" (.ref lw) (ar "down" (.ref ld) (ar "web" (.ref p) []))));have o5:upd H4 o (.ins T.Tally dx (ar "weights" (.ref lw) (ar "down" (.ref ld) (ar "web" (.ref p) [])))) o=some (.ins T.Tally dx (ar "weights" (.ref lw) (ar "down" (.ref ld) (ar "web" (.ref p) [])))):=ah;have e5d:upd H4 o (.ins T.Tally dx (ar "weights" (.ref lw) (ar "down" (.ref ld) (ar "web" (.ref p) [])))) ld=_:=(ao ldo).trans (s4 _ _ e3);have e5w:upd H4 o (.ins T.Tally dx (ar "weights" (.ref lw) (ar "down" (.ref ld) (ar "web" (.ref p) [])))) lw=_:=(ao lwo).trans e4;generalize upd H4 o (.ins T.Tally dx (ar "weights" (.ref lw) (ar "down" (.ref ld) (ar "web" (.ref p) []))))=H5 at k5 o5 e5d e5w ⊢;refine ⟨p,t,m,ps,rs,r,rfl,W.kptT k5 ho,fun _ _=>⟨par,dep,R,fun tl lb H6 et Or n6 s6 e6=>?_⟩,fun z=>absurd rr z⟩;refine ⟨T.Tally,dx,_,s6 _ _ o5,T.cQ,T.xk,by show 3<1000;decide,?_⟩;have lbo:lb≠o:=no2 o5 n6;have k7:=(k5.then s6).put (.ins T.Tally dx (ar "bearers" (.ref lb) (ar "weights" (.ref lw) (ar "down" (.ref ld) (ar "web" (.ref p) [])))));have o7:upd H6 o (.ins T.Tally dx (ar "bearers" (.ref lb) (ar "weights" (.ref lw) (ar "down" (.ref ld) (ar "web" (.ref p) []))))) o=some (.ins T.Tally dx (ar "bearers" (.ref lb) (ar "weights" (.ref lw) (ar "down" (.ref ld) (ar "web" (.ref p) []))))):=ah;have e7d:upd H6 o (.ins T.Tally dx (ar "bearers" (.ref lb) (ar "weights" (.ref lw) (ar "down" (.ref ld) (ar "web" (.ref p) []))))) ld=_:=(ao ldo).trans (s6 _ _ e5d);have e7w:upd H6 o (.ins T.Tally dx (ar "bearers" (.ref lb) (ar "weights" (.ref lw) (ar "down" (.ref ld) (ar "web" (.ref p) []))))) lw=_:=(ao lwo).trans (s6 _ _ e5w);have e7b:upd H6 o (.ins T.Tally dx (ar "bearers" (.ref lb) (ar "weights" (.ref lw) (ar "down" (.ref ld) (ar "web" (.ref p) []))))) lb=_:=(ao lbo).trans e6;generalize upd H6 o (.ins T.Tally dx (ar "bearers" (.ref lb) (ar "weights" (.ref lw) (ar "down" (.ref ld) (ar "web" (.ref p) [])))))=H7 at k7 o7 e7d e7w e7b ⊢;have W3:=W.kptT k7 ho;clear k1 k3 k5 o1 o3 o5 e2 e3 e4 e5d e5w e6 s2 s4 s6 n2 n4 n6;refine ⟨p,t,m,ps,rs,r,rfl,W3,fun _ _=>⟨par,dep,R,fun la H4 n4 s4 e4=>⟨la,rfl,⟨_,SqL.of e4⟩,fun ka nka=>?_⟩⟩,fun z=>absurd rr z⟩;have n3ka:=s4.free nka;refine M9 (K:=K) (c:=true) (xs:=mB m r par) (fun i ys σ H5=>Same H4 H5/\H5 ka=some (.lst ys)/\(∃ kl:List Addr,ys=kl.map V.ref/\Paired (fun a v=>H5 a=some (.lst ((kd m rs r par v).map V.int))) kl ((below m.toNat).take i)/\∀ q∈kl,q≠ka)/\∃ v w,σ=[v,w,some (V.ref p)]) ⟨Same.new _ nka,ah,⟨[],rfl,.nil,by simp⟩,_,_,rfl⟩ (fun i ys σ H5 z=>SqL.of (z.1 _ _ e4)) ?_ ?_
   . rintro i x ys σ H5 q N hN hx ⟨s5,e5,⟨kl,rfl,pk,hkq⟩,v,w,rfl⟩ nq;have il:i<m.toNat:=by
       have:=(List.getElem?_eq_some_iff.mp hx).1;unfold mB at this
       rwa [List.length_map,aY] at this
     have ex:x=Pb.front r par (i:Int):=by
       have:=AN (m:=m) (r:=r) (par:=par) (v:=(i:Int)) (by omega) (by omega);rw [show ((i:Int)).toNat=i from rfl,hx] at this;exact Option.some.inj this
     have qe:=s5 _ _ e4;have s6:=Same.new (.tup [V.int i,x]) nq;have s46:=s5.trans s6;have et:(below m.toNat).take (i+1)=(below m.toNat).take i++[(i:Int)]:=(by rw [List.take_succ,fK il];rfl);have kll:kl.length<=24:=by
       have:=Paired.length pk;rw [List.length_take] at this;omega
     walk_at "rd";refine ⟨_,SqT.of ah,rfl,_,_,rfl,_,_,rfl,rfl,?_⟩;refine ⟨p,t,m,ps,rs,i,x,rfl,W3.same (s4.trans s46),by omega,by omega,?_,fun l6 H6 n6 s7 e7=>?_⟩
     . rw [ex];unfold Pb.front;split
       . exact .inl rfl
       . exact .inr ⟨_,rfl⟩
     have s57:=s6.trans s7;refine ⟨s57 _ _ e5,bG (by rw [List.length_map];omega),hN _ _ _ ⟨(s5.trans s57).put nka _,ah,⟨kl++[l6],by rw [List.map_append];rfl,?_,fun q hq=>?_⟩,_,_,rfl⟩⟩;have nk:l6≠ka:=fun z=>by rw [z,s6 _ _ e5] at n6;cases n6
     rotate_left
     . rcases List.mem_append.mp hq with h|h
       . exact hkq q h
       . rw [List.mem_singleton.mp h];exact fun z=>by rw [z,s6 _ _ e5] at n6;cases n6
     rw [et];refine vy (by rw [ao nk,e7,ex]) (DA (fun q v hq h=>?_) pk);have e:q≠ka:=fun z=>hkq q hq z;rw [ao e];exact s57 _ _ h
   . rintro ys σ H5 ⟨s5,e5,⟨kl,rfl,pk,hkq⟩,v,w,rfl⟩;rw [show (mB m r par).length=m.toNat by unfold mB;rw [List.length_map,aY],List.take_of_length_le (by rw [aY];exact Nat.le_refl _)] at pk;have o5:=s5 _ _ (s4 _ _ o7);have k5:=(k7.then s4).then s5;have s45:=s4.trans s5;refine ⟨T.Tally,dx,_,o5,T.cQ,T.Nt,by show 4<1000;decide,by decide,fun l1 n1=>?_⟩;have kao:ka≠o:=fun z=>by rw [z,o5] at e5;cases e5
     have k6:=k5.put (.ins T.Tally dx (ar "kids" (.ref ka) (ar "bearers" (.ref lb) (ar "weights" (.ref lw) (ar "down" (.ref ld) (ar "web" (.ref p) []))))));have o6:upd H5 o (.ins T.Tally dx (ar "kids" (.ref ka) (ar "bearers" (.ref lb) (ar "weights" (.ref lw) (ar "down" (.ref ld) (ar "web" (.ref p) [])))))) o=some (.ins T.Tally dx (ar "kids" (.ref ka) (ar "bearers" (.ref lb) (ar "weights" (.ref lw) (ar "down" (.ref ld) (ar "web" (.ref p) [])))))):=ah;have e6:upd H5 o (.ins T.Tally dx (ar "kids" (.ref ka) (ar "bearers" (.ref lb) (ar "weights" (.ref lw) (ar "down" (.ref ld) (ar "web" (.ref p) [])))))) ka=_:=(ao kao).trans e5;have e6d:upd H5 o (.ins T.Tally dx (ar "kids" (.ref ka) (ar "bearers" (.ref lb) (ar "weights" (.ref lw) (ar "down" (.ref ld) (ar "web" (.ref p) [])))))) ld=_:=(ao ldo).trans (s45 _ _ e7d);have e6w:upd H5 o (.ins T.Tally dx (ar "kids" (.ref ka) (ar "bearers" (.ref lb) (ar "weights" (.ref lw) (ar "down" (.ref ld) (ar "web" (.ref p) [])))))) lw=_:=(ao lwo).trans (s45 _ _ e7w);have e6b:upd H5 o (.ins T.Tally dx (ar "kids" (.ref ka) (ar "bearers" (.ref lb) (ar "weights" (.ref lw) (ar "down" (.ref ld) (ar "web" (.ref p) [])))))) lb=_:=(ao lbo).trans (s45 _ _ e7b);have pk6:Paired (fun a v=>upd H5 o (.ins T.Tally dx (ar "kids" (.ref ka) (ar "bearers" (.ref lb) (ar "weights" (.ref lw) (ar "down" (.ref ld) (ar "web" (.ref p) [])))))) a=some (.lst ((kd m rs r par v).map V.int))) kl (below m.toNat):=Paired.imp' (fun q v h=>by rw [ao (dh h o5 (by intro z;cases z))];exact h) pk;generalize upd H5 o (.ins T.Tally dx (ar "kids" (.ref ka) (ar "bearers" (.ref lb) (ar "weights" (.ref lw) (ar "down" (.ref ld) (ar "web" (.ref p) []))))))=H6 at k6 o6 e6 e6d e6w e6b pk6 n1 ⊢;have s7:=Same.new (.lst [V.non]) n1;obtain ⟨dw',wb'⟩:=(W.kptT k6 ho).ob;refine ⟨T.Web,dw',_,s7 _ _ wb',T.kI,T.n_many,_,my _ _,?_⟩;refine ⟨l1,m,[V.non],rfl,rfl,ah,by omega,by omega,aJ (by simp;omega),fun lr nlr=>?_⟩;rw [GP];have s8:=s7.trans (Same.new (.lst (List.replicate m.toNat V.non)) nlr);have i8:upd (upd H6 l1 (.lst [V.non])) lr (.lst (List.replicate m.toNat V.non)) lr=some (.lst (List.replicate m.toNat V.non)):=ah;have nlr6:=s7.free nlr;generalize upd (upd H6 l1 (.lst [V.non])) lr (.lst (List.replicate m.toNat V.non))=H8 at s8 i8 ⊢;have o8:=s8 _ _ o6;refine ⟨T.Tally,dx,_,o8,T.cQ,T.n_rests,by show 5<1000;decide,?_⟩;have k8:=(k6.then s8).put (.ins T.Tally dx (gd p ld lw lb ka lr));have lro:lr≠o:=fun z=>by rw [z,o6] at nlr6;cases nlr6
     have T9:TalAt T.Web T.Tally (upd H8 o (.ins T.Tally dx (gd p ld lw lb ka lr))) o p t m ps rs r par dep tl ld lw lb ka lr kl (List.replicate m.toNat V.non) (fun _=>False) :=
       ⟨⟨dx,ah⟩,W.kptT k8 ho,R,et,Or,(ao ldo).trans (s8 _ _ e6d),(ao lwo).trans (s8 _ _ e6w),(ao lbo).trans (s8 _ _ e6b),(ao kao).trans (s8 _ _ e6),Paired.imp' (fun q v h=>by rw [ao (dh h o6 (by intro z;cases z))];exact s8 _ _ h) pk6,(ao lro).trans i8,by rw [List.length_replicate],fun x hx=>.inl (List.eq_of_mem_replicate hx),fun v z=>z.elim⟩
     have hld:ld≠lr:=fun z=>by rw [<- z,e6d] at nlr6;cases nlr6
     have hlw:lw≠lr:=fun z=>by rw [<- z,e6w] at nlr6;cases nlr6
     have hlb:lb≠lr:=fun z=>by rw [<- z,e6b] at nlr6;cases nlr6
     have hlk:ka≠lr:=fun z=>by rw [<- z,e6] at nlr6;cases nlr6
     have hkl:∀ q∈kl,q≠lr:=fun q hq z=>by
       obtain ⟨v,hv⟩:=Ki pk6 hq;rw [z,nlr6] at hv;cases hv
     have hlr0:H lr=none:=by
       cases e:H lr with
       | none=>rfl
       | some x=>rw [k6 _ _ e lro] at nlr6;cases nlr6
     have k9:=k8;change ∃ x x_1 x_2,upd H8 o (.ins T.Tally dx (gd p ld lw lb ka lr)) o=some (HO.ins x x_1 x_2)/\_;obtain ⟨H9,eH9⟩:∃ H9,H9=upd H8 o (.ins T.Tally dx (gd p ld lw lb ka lr)):=⟨_,rfl⟩;refine ⟨T.Tally,dx,_,ah,T.cQ,T.Nm,_,Ll p ld lw lb ka lr,ld,rfl,_,SqL.of T9.hd,?_⟩;rw [<- eH9] at T9 k9;change oN _ _ _ _ _ (upd H8 o (.ins T.Tally dx (gd p ld lw lb ka lr)));rw [<- eH9];clear eH9 k8 i8 s8 s7 n1 pk6 e6 e6d e6w e6b o6 k6 k5 o5 o8 wb';refine nF (K:=K) (xs:=(bj m rs r par dep r).map V.int) (fun i σ H10=>Kpt o H H10/\∃ (rv:List V) (v3:Option V),TalAt T.Web T.Tally H10 o p t m ps rs r par dep tl ld lw lb ka lr kl rv (fun v=>v∈(bj m rs r par dep r).reverse.take i)/\σ=[some (V.ref o),some (V.ref p),some (V.int r),v3]) ⟨k9,List.replicate m.toNat V.non,none,?_,rfl⟩ (fun i σ H10 _ ⟨_,rv,v3,z,_⟩=>SqL.of z.hd) ?_ ?_
     . exact ⟨T9.ob,T9.web,T9.rt,T9.et,T9.or,T9.hd,T9.hw,T9.hb,T9.hk,T9.kp,T9.hr,T9.rl,T9.rn,fun v hv=>by cases hv⟩
     . rintro i x σ H10 N hN hx ⟨k10,rv,v3,T10,rfl⟩;rw [<- List.map_reverse] at hx;obtain ⟨v,hv,rfl⟩:=List.getElem?_map_some hx;have vm:=(al2 v).mp (List.mem_reverse.mp (List.mem_of_getElem? hv));have kmet:∀ k∈kd m rs r par v,k∈(bj m rs r par dep r).reverse.take i:=by
         rw [et] at hv ⊢;exact T5 g R Or hv vm.1 vm.2
       have evr:(below m.toNat)[v.toNat]?=some v:=by
         rw [fK (by omega),Int.toNat_of_nonneg vm.1]
       obtain ⟨lkp,hkl1,hkl2⟩:=yN T10.kp evr;obtain ⟨dx',ob'⟩:=T10.ob;have frx:∀ k∈kd m rs r par v,frK (ic m rs r par dep) (bea m rs r par dep tl v) (cK rs par) v k=frW m rs r par dep tl k/\beK (bea m rs r par dep tl v) k=beW m rs r par dep tl k:=fun k hk=>by
         have w:=(ba g R vm.1 vm.2).mp hk;have ec:((cK rs par k:Nat):Int)=tup rs par k:=Int.toNat_of_nonneg (by have:=(qJ g R w.1.1 w.1.2 w.2.1).1;omega);unfold frK frW beK beW;rw [ec,w.2.2,show (ic m rs r par dep).getD k.toNat 0=wgt m rs r par dep k from qB w.1.1 w.1.2,show (ic m rs r par dep).getD v.toNat 0=wgt m rs r par dep v from qB vm.1 vm.2];exact ⟨rfl,rfl⟩
       walk_at "rd";refine ⟨o,dx',p,t,lw,lb,ka,lr,lkp,_,m,ps,rs,ic m rs r par dep,_,_,rv,v,kd m rs r par v,bea m rs r par dep tl v,wyT m rs r par dep tl,cK rs par,dgr m rs r par dep,rfl,ob',Oe _ _ _ _ _ _,EU _ _ _ _ _ _,EJ _ _ _ _ _ _,Lp _ _ _ _ _ _,tU _ _ _ _ _ _,T10.web,T10.hw,?_,T10.hb,T10.hk,T10.hr,vm,?_,?_,hkl2,?_,?_,?_⟩
       . have:(ic m rs r par dep).length=m.toNat:=za;omega
       . exact (Tz vm.1).symm.trans (Sn vm.1 vm.2)
       . rw [List.getElem?_map,hkl1]
         rfl
       . intro k hk;have w:=(ba g R vm.1 vm.2).mp hk;obtain ⟨k',tk,t2,t6⟩:=mq g R w.1.1 w.1.2 w.2.1;have et':tup rs par k=k':=by
           unfold tup;rw [tk]
           rfl
         have ek:((cK rs par k:Nat):Int)=k':=by
           unfold cK;rw [et'];exact Int.toNat_of_nonneg (by omega)
         obtain ⟨_,lp,lds,h1,h2,h3,h4⟩:=T10.done_ k (kmet k hk);have wst:=nS (fr:=frW m rs r par dep tl) (be:=beW m rs r par dep tl) (c:=cK rs par) g R w.1.1 w.1.2;refine ⟨w.1.1,w.1.2,by rw [ek,<- w.2.2];exact tk,by omega,by omega,Cp g R (fun u u0 u1 ur=>?_) (m.toNat - dep k) w.1.1 w.1.2 (Nat.le_refl _),?_⟩
         . have:=qJ g R u0 u1 ur;unfold cK;omega
         . obtain ⟨sr,es⟩:=Go (kd m rs r par k);rw [es] at h4;cases h4 with
           | cons e he =>
             obtain ⟨cs,c1,c2⟩:=e;refine ⟨lp,_,_,cs,h1,h3,c1,?_⟩;have:=c2.le (b':=15000) (B0 (by have:=iP g R w.1.1 w.1.2;have:=rH g R w.1.1 w.1.2;omega));refine ⟨this.ne,this.len,this.bt,fun n=>(this.val n).trans ?_⟩;show _=wy m rs r par dep (frW m rs r par dep tl) (beW m rs r par dep tl) (cK rs par) k n;rw [wst]
             rfl
       . rw [iP g R vm.1 vm.2];exact rH g R vm.1 vm.2
       . intro l lds H11 nl s11 e11 ra;have T11:=T10.same s11;obtain ⟨dx2,ob2⟩:=T11.ob;have nll:l≠lr:=fun z=>by rw [z,T10.hr] at nl;cases nl
         have ra':sD H11 (bts (dgr m rs r par dep)) (rst (frW m rs r par dep tl) (beW m rs r par dep tl) (fun k g=>wyT m rs r par dep tl k (Pb.hld (cK rs par k) g))) lds (sfx (kd m rs r par v)):=Ht (fun a ks' hk' ⟨cs,c1,c2⟩=>⟨cs,c1,by
           have e:=yK (fr:=frK (ic m rs r par dep) (bea m rs r par dep tl v) (cK rs par) v) (be:=beK (bea m rs r par dep tl v)) (ws:=fun k g=>wyT m rs r par dep tl k (Pb.hld (cK rs par k) g)) (fr':=frW m rs r par dep tl) (be':=beW m rs r par dep tl) (ws':=fun k g=>wyT m rs r par dep tl k (Pb.hld (cK rs par k) g)) (ks:=ks') fun k hk=>⟨(frx k (CV hk' k hk)).1,(frx k (CV hk' k hk)).2,rfl⟩;rw [<- e];exact c2⟩) ra
         refine ⟨T.Tally,dx2,_,ob2,T.cQ,T.n_rests,_,tU _ _ _ _ _ _,DZ T11.hr vm.1 (by rw [T11.rl];omega) (hN _ _ ⟨?_,rv.set v.toNat (.ref l),some (V.int v),?_,rfl⟩)⟩
         . exact fun b y hb nb=>by rw [ao (ay hb hlr0)];exact s11 _ _ (k10 b y hb nb)
         . have nv:∀ u,u∈(bj m rs r par dep r).reverse.take i->u≠v:=fun u hu z=>by
             have nd:(bj m rs r par dep r).reverse.Nodup:=((List.reverse_perm _).nodup_iff).mpr nd2;have il:=(List.getElem?_eq_some_iff.mp hv).1;rw [z] at hu;obtain ⟨j,hj⟩:=List.getElem?_of_mem hu;have jl:=(List.getElem?_eq_some_iff.mp hj).1;rw [List.length_take] at jl;rw [List.getElem?_take_of_lt (by omega)] at hj;have:=(List.getElem?_inj (by omega) nd).mp (hj.trans hv.symm);omega
           have T12:=T11.put hld hlw hlb hlk hkl vm.1 vm.2 nv nll e11 ra';refine ⟨T12.ob,T12.web,T12.rt,T12.et,T12.or,T12.hd,T12.hw,T12.hb,T12.hk,T12.kp,T12.hr,T12.rl,T12.rn,fun u hu=>T12.done_ u ?_⟩;rw [List.take_succ,hv] at hu;rcases List.mem_append.mp hu with hu|hu
           . exact .inr hu
           . exact .inl (by simpa using hu)
     . rintro σ H10 ⟨k10,rv,v3,T10,rfl⟩;refine k tl ld lw lb ka lr kl rv H10 ⟨T10.ob,T10.web,T10.rt,T10.et,T10.or,T10.hd,T10.hw,T10.hb,T10.hk,T10.kp,T10.hr,T10.rl,T10.rn,fun v hv=>T10.done_ v ?_⟩ k10;rw [List.length_map,<- List.length_reverse,List.take_length,List.mem_reverse];exact (al2 v).mpr hv
def rR (T:Txt K mg):Sp:=fun vs H Q E=>∃ (p t:Addr) (m:Int) (ps:List Addr) (rs:List Road) (r x:Int),vs=[.ref p,.int r,.int x]/\WebAt T.Web H p m t ps rs/\(0<=r->r<m->1<=x->Q .non H)/\(¬ (0<=r/\r<m)->E (.ref T.NoPlace) none H)/\(0<=r->r<m->x<1->E (.ref T.BadWish) none H)
abbrev bA:Stmt:=top 27
theorem Cv:FnScope ["web","r","wanted"] ["web","r","wanted"] (aa bA):=FnScope.of (by kernel_rfl)
theorem wZ:NmL (aa bA) "web":=.of (by kernel_rfl)
theorem zu:NmL (aa bA) "r":=.of (by kernel_rfl)
theorem sT:NmL (aa bA) "wanted":=.of (by kernel_rfl)
theorem iq:NmG (aa bA) "check_place":=.of (by kernel_rfl)
theorem ko:NmG (aa bA) "BadWish":=.of (by kernel_rfl)
theorem B9 (T:Txt K mg) (hq:aQ (CXe P w)) {f:Addr} {fd:FuncData} (D:Df K mg "check_wanted" bA ["web","r","wanted"] f fd) {bg:Addr} {b4:FuncData} (aB:Df K mg "check_place" bq ["web","number"] bg b4) (G_check_place:FnOk P w K mg base (CXe P w) 2 bg b4 ["web","number"] (g9 T)):FnOk P w K mg base (CXe P w) 3 f fd ["web","r","wanted"] (rR T):=by
 refine D.F.okX Cv (fun vs H Q E h=>?_) (fun cdv A outer s H vs Q E hr h=>?_)
 . obtain ⟨p,t,m,ps,rs,r,x,rfl,_⟩:=h
   rfl
 . obtain ⟨p,t,m,ps,rs,r,x,rfl,W,k,e,e'⟩:=h;refine ⟨_,(aj (bw (au G_check_place (hr.mono (by decide)) iq.g aB.m aB.F.kp aB.b .nil fJ (ag (pvl 0 wZ) (ag (pvl 1 zu) ak)) (hdb:=iq.d))) (ap (bT (aX y7 (pvl 2 sT) am (bc _)) (ap (A3 T.MU rfl DP ko.g T.Nj (ag GW ak) (hdb:=ko.d))) bp))),?_⟩;rw [show L2.start ["web","r","wanted"] [V.ref p,V.int r,V.int x]=[some (V.ref p),some (V.int r),some (V.int x)] from rfl];walk_at "rd";refine ⟨p,t,m,ps,rs,r,rfl,W,fun r0 r1=>?_,e⟩;show if x<1 then _ else _;by_cases z:x<1
   . rw [if_pos z];exact ⟨by decide,e' r0 r1 z⟩
   . rw [if_neg z];exact k r0 r1 (by omega)
def wF (T:Txt K mg):Sp:=fun vs H Q _=>∃ (p t:Addr) (m:Int) (ps:List Addr) (rs:List Road) (r:Int) (n:Nat),vs=[.ref p,.int r,.int (n+1:Nat)]/\WebAt T.Web H p m t ps rs/\(0<=r/\r<m)/\n+1<=2^4000 /\
 ∃ par dep,Rooted m rs r par dep/\∀ tl H',Order m r par tl->bj m rs r par dep r=r::tl->Same H H'->Q (.int (wyT m rs r par dep tl r n)) H'
abbrev bM:Stmt:=top 38
theorem EF:FnScope ["web","r","wanted"] ["web","r","wanted"] (aa bM):=FnScope.of (by kernel_rfl)
theorem p6:NmL (aa bM) "web":=.of (by kernel_rfl)
theorem mQ:NmL (aa bM) "r":=.of (by kernel_rfl)
theorem mN:NmL (aa bM) "wanted":=.of (by kernel_rfl)
theorem iZ:NmG (aa bM) "check_wanted":=.of (by kernel_rfl)
theorem mn:NmG (aa bM) "ways_of":=.of (by kernel_rfl)
theorem nc:NmG (aa bM) "Tally":=.of (by kernel_rfl)
theorem EH (T:Txt K mg) (hq:aQ (CXe P w)) {f:Addr} {fd:FuncData} (D:Df K mg "worst_many" bM ["web","r","wanted"] f fd) {f_Tally___init__:Addr} {kC:FuncData} (F_Tally___init__:Fun K "__init__" "Tally.__init__" aD f_Tally___init__ kC) (b_Tally:Binds K kC ["self","web","r"] []) (C1:Mk K T.Tally f_Tally___init__) (G_Tally_init:FnOk P w K mg base (CXe P w) 10 f_Tally___init__ kC ["self","web","r"] (qm T)) {dY:Addr} {sF:FuncData} (fT:Df K mg "check_wanted" bA ["web","r","wanted"] dY sF) (G_check_wanted:FnOk P w K mg base (CXe P w) 3 dY sF ["web","r","wanted"] (rR T)) {fL:Addr} {mH:FuncData} (eP:Df K mg "ways_of" df ["tally","place","held"] fL mH) (G_ways_of:FnOk P w K mg base (CXe P w) 2 fL mH ["tally","place","held"] (vk T)):FnOk P w K mg base (CXe P w) 12 f fd ["web","r","wanted"] (wF T):=by
 refine D.F.okC EF (fun vs H Q E h=>?_) (fun cdv A outer s H vs Q E hr h=>?_)
 . obtain ⟨p,t,m,ps,rs,r,n,rfl,_⟩:=h
   rfl
 . obtain ⟨p,t,m,ps,rs,r,n,rfl,W,rr,nb,par,dep,R,k⟩:=h;have g:=W.go;refine ⟨_,(aj (bw (au G_check_wanted (hr.mono (by decide)) iZ.g fT.m fT.F.kp fT.b .nil (aL hq) (ag (pvl 0 p6) (ag (pvl 1 mQ) (ag (pvl 2 mN) ak))) (hdb:=iZ.d))) (ap (aO (au G_ways_of (hr.mono (by decide)) mn.g eP.m eP.F.kp eP.b .nil (aL hq) (ag (JV C1 G_Tally_init (hr.mono (by decide)) nc.g T.SL b_Tally .nil (aL hq) (ag (pvl 0 p6) (ag (pvl 1 mQ) ak)) (hdb:=nc.d)) (ag (pvl 1 mQ) (ag (aq gY (pvl 2 mN) am) ak))) (hdb:=mn.d))))),?_⟩;rw [show L2.start ["web","r","wanted"] [V.ref p,V.int r,V.int (n+1:Nat)]=[some (V.ref p),some (V.int r),some (V.int (n+1:Nat))] from rfl];walk_at "rd";refine ⟨p,t,m,ps,rs,r,((n+1:Nat):Int),rfl,W,fun _ _ _=>?_,fun z=>absurd rr z,fun _ _ z=>absurd z (by omega)⟩;dsimp only;intro x dx hx hdx ne;have hx1:upd H dx (.own x) x=none:=by rw [ao ne.symm];exact hx
   have s0:Same H (upd (upd H dx (.own x)) x (.ins T.Tally dx [])):=(Same.new _ hdx).trans (Same.new _ hx1);refine ⟨x,dx,p,t,m,ps,rs,r,rfl,ah,W.same s0,rr,par,dep,R,fun tl ld lw lb lk lr kl rv H2 TA kp=>⟨rfl,?_⟩⟩;have s2:Same H H2:=fun b o e=>kp b o (s0 b o e) (ay e hx);obtain ⟨_,lp,lds,h1,h2,h3,h4⟩:=TA.done_ r rr;obtain ⟨sr,es⟩:=Go (kd m rs r par r);rw [es] at h4;obtain ⟨dx2,ob⟩:=TA.ob;have wst:=nS (fr:=frW m rs r par dep tl) (be:=beW m rs r par dep tl) (c:=cK rs par) g R rr.1 rr.2;have e1:((n+1:Nat):Int) - 1=(n:Int):=by omega
   have e4:(2:Nat)^4000<=2^4000:=Nat.le_refl _;cases h4 with
   | cons e he =>
     obtain ⟨cs,c1,c2⟩:=e;have c3:=c2.le (b':=15000) (B0 (by have:=iP g R rr.1 rr.2;have:=rH g R rr.1 rr.2;have:=g.m24;omega));have cl:=c3.len;rw [e1];refine ⟨x,dx2,lr,lp,_,_,rv,_,r,cs,n,rfl,ob,tU _ _ _ _ _ _,TA.hr,rr.1,h1,h3,c1,by omega,hG (k:=4000) (by omega) (by decide),fun c hc=>hG (c3.bt c hc) (by decide),fun j hj=>J6 (x:=4000) nb (by omega),fun H3 s3=>?_⟩;rw [c3.val];have:=k tl H3 TA.or TA.et (s2.trans s3);unfold wyT at this;rw [wst] at this;exact this
/-- the columns are what the law's flags say -/
theorem NY {m:Int} {rs:List Road} {r:Int} {par:Int->Int} {dep:Int->Nat} (g:Good m rs) (R:Rooted m rs r par dep) (rr:0<=r/\r<m) {tl:List Int} (et:bj m rs r par dep r=r::tl) (O:Order m r par tl):∀ (v:Int) (pre post:List Int) (k:Int),0<=v->v<m->kd m rs r par v=pre++k::post->beW m rs r par dep tl k=(hvK m rs r par dep k && !(post.any (hvK m rs r par dep)))/\frW m rs r par dep tl k=(hvK m rs r par dep k && !(beW m rs r par dep tl k)):=by
 intro v pre post k v0 v1 ek;have hvv:∀ b∈kd m rs r par v,hvK m rs r par dep b=decide (wgt m rs r par dep b*tup rs par b=wgt m rs r par dep v):=fun b hb=>by
   unfold hvK;rw [((ba g R v0 v1).mp hb).2.2]
 have km:k∈kd m rs r par v:=by rw [ek];exact List.mem_append_right _ (.head _)
 have pk':=((ba g R v0 v1).mp km).2.2;have bf:=QA g R rr.1 rr.2 et O v0 v1 ek;have ea:(post.any fun b=>decide (wgt m rs r par dep b*tup rs par b=wgt m rs r par dep v))=post.any (hvK m rs r par dep):=Gu fun b hb=>(hvv b (by rw [ek];exact List.mem_append_right _ (.tail _ hb))).symm;rw [ea,<- hvv k km] at bf;have eb:beW m rs r par dep tl k=(hvK m rs r par dep k && !(post.any (hvK m rs r par dep))):=by
   unfold beW;rw [pk'];by_cases c:bea m rs r par dep tl v=some k
   . rw [decide_eq_true c,bf.mp c]
   . rw [decide_eq_false c];exact (Bool.eq_false_iff.mpr fun z=>c (bf.mpr z)).symm
 refine ⟨eb,?_⟩;unfold frW beW;rw [pk',hvv k km]
 congr 1
 by_cases c:bea m rs r par dep tl v=some k
 . rw [decide_eq_true c,decide_eq_false (fun z=>z c)]
   rfl
 . rw [decide_eq_false c,decide_eq_true c]
   rfl
def Fu (K:PySem.W.Frag):Sp:=fun vs H Q _=>∃ (a:Addr) (ns:List Int),vs=[.ref a]/\SqL K H a (ns.map V.int)/\ns.length<=63/\∀ H',Q (.bl true) H'
def Tm (T:Txt K mg):Sp:=Fu K
abbrev bn:Stmt:=top 60
theorem dW:FnScope ["script","numbers","many","roads","tolls","r","place","shape","known","row","web","cells","cell","wanted","found"] ["script"] (aa bn):=FnScope.of (by kernel_rfl)
theorem lx:NmL (aa bn) "script":=.of (by kernel_rfl)
theorem b6:NmL (aa bn) "numbers":=.of (by kernel_rfl)
theorem eG:NmL (aa bn) "many":=.of (by kernel_rfl)
theorem hJ:NmL (aa bn) "roads":=.of (by kernel_rfl)
theorem qN:NmL (aa bn) "tolls":=.of (by kernel_rfl)
theorem nG:NmC (aa bn) "r":=.of (by kernel_rfl)
theorem xS:NmC (aa bn) "place":=.of (by kernel_rfl)
theorem xz:NmC (aa bn) "shape":=.of (by kernel_rfl)
theorem GA:NmC (aa bn) "known":=.of (by kernel_rfl)
theorem B6:NmL (aa bn) "row":=.of (by kernel_rfl)
theorem vK:NmL (aa bn) "web":=.of (by kernel_rfl)
theorem qU:NmL (aa bn) "cells":=.of (by kernel_rfl)
theorem oM:NmL (aa bn) "cell":=.of (by kernel_rfl)
theorem lu:NmL (aa bn) "wanted":=.of (by kernel_rfl)
theorem jX:NmL (aa bn) "found":=.of (by kernel_rfl)
theorem oS:NmG (aa bn) "_law_numbers":=.of (by kernel_rfl)
theorem uC:NmG (aa bn) "_law_web":=.of (by kernel_rfl)
theorem oY:NmG (aa bn) "_law_lighter":=.of (by kernel_rfl)
theorem rq:NmG (aa bn) "_law_tolls":=.of (by kernel_rfl)
theorem yI:NmG (aa bn) "range":=.of (by kernel_rfl)
theorem vW:NmG (aa bn) "len":=.of (by kernel_rfl)
theorem rj:NmG (aa bn) "_law_shape":=.of (by kernel_rfl)
theorem sC:NmG (aa bn) "_law_down":=.of (by kernel_rfl)
theorem rY:NmG (aa bn) "_law_ends":=.of (by kernel_rfl)
theorem Br:NmG (aa bn) "Web":=.of (by kernel_rfl)
theorem tV:NmG (aa bn) "list":=.of (by kernel_rfl)
theorem jC:NmG (aa bn) "_law_cell":=.of (by kernel_rfl)
theorem gW:NmG (aa bn) "worst_many":=.of (by kernel_rfl)
theorem qO:NmG (aa bn) "_law_whole":=.of (by kernel_rfl)
theorem rf:NmG (aa bn) "_law_value":=.of (by kernel_rfl)
theorem TJ (T:Txt K mg) (hq:aQ (CXe P w)) {f:Addr} {fd:FuncData} (D:Df K mg "law" bn ["script"] f fd) {f_Web___init__:Addr} {mZ:FuncData} (F_Web___init__:Fun K "__init__" "Web.__init__" aV f_Web___init__ mZ) (b_Web:Binds K mZ ["self","many","roads"] []) (Lb:Mk K T.Web f_Web___init__) (G_Web_init:FnOk P w K mg base (CXe P w) 3 f_Web___init__ mZ ["self","many","roads"] (m3 T)) {eI:Addr} {kO:FuncData} (bO:Df K mg "_law_cell" da ["script","k"] eI kO) (G_law_cell:FnOk P w K mg base (CXe P w) 1 eI kO ["script","k"] (tT T)) {iA:Addr} {zN:FuncData} (j5:Df K mg "_law_down" bC ["many","tolls","r"] iA zN) (G_law_down:FnOk P w K mg base (CXe P w) 1 iA zN ["many","tolls","r"] (zU T)) {iU:Addr} {Ab:FuncData} (j0:Df K mg "_law_ends" cJ ["shape","r"] iU Ab) (G_law_ends:FnOk P w K mg base (CXe P w) 1 iU Ab ["shape","r"] (zK T)) {fm:Addr} {uo:FuncData} (gv:Df K mg "_law_lighter" bh ["many","roads","limit"] fm uo) (G_law_lighter:FnOk P w K mg base (CXe P w) 1 fm uo ["many","roads","limit"] (nJ T)) {fi:Addr} {ux:FuncData} (gz:Df K mg "_law_numbers" bd ["script","many"] fi ux) (G_law_numbers:FnOk P w K mg base (CXe P w) 2 fi ux ["script","many"] (um T)) {gM:Addr} {yM:FuncData} (je:Df K mg "_law_shape" aR ["tolls","order"] gM yM) (G_law_shape:FnOk P w K mg base (CXe P w) 2 gM yM ["tolls","order"] (xZ T)) {gO:Addr} {yB:FuncData} (jh:Df K mg "_law_tolls" b7 ["roads"] gO yB) (G_law_tolls:FnOk P w K mg base (CXe P w) 1 gO yB ["roads"] (yn T)) {gJ:Addr} {xX:FuncData} (jk:Df K mg "_law_value" bz ["row","y"] gJ xX) (G_law_value:FnOk P w K mg base (CXe P w) 1 gJ xX ["row","y"] (xD T)) {iG:Addr} {zE:FuncData} (D_law_ways:Df K mg "_law_ways" aP ["shape","place","k","left","known"] iG zE) (G_law_ways:FnOk P w K mg base (CXe P w) 26 iG zE ["shape","place","k","left","known"] (zR T)) {jR:Addr} {B4:FuncData} (mo:Df K mg "_law_web" br ["numbers"] jR B4) (G_law_web:FnOk P w K mg base (CXe P w) 2 jR B4 ["numbers"] (BK T)) {gN:Addr} {xH:FuncData} (jf:Df K mg "_law_whole" cI ["found"] gN xH) (G_law_whole:FnOk P w K mg base (CXe P w) 1 gN xH ["found"] (yG T)) {f6:Addr} {wG:FuncData} (dD:Df K mg "worst_many" bM ["web","r","wanted"] f6 wG) (G_worst_many:FnOk P w K mg base (CXe P w) 12 f6 wG ["web","r","wanted"] (wF T)):FnOk P w K mg base (CXe P w) 27 f fd ["script"] (Tm T):=by
 refine D.F.okC dW (fun vs H Q E h=>?_) (fun cdv A outer s H vs Q E hr h=>?_)
 . obtain ⟨a,ns,rfl,_⟩:=h
   rfl
 . obtain ⟨a,ns,rfl,ha,hn,k⟩:=h;have hv:=hr.units;have hu:=sB hr;refine ⟨_,(aj (aw (i:=1) dW.nd rfl (Or.inl b6.l) (au G_law_numbers (hr.mono (by decide)) oS.g gz.m gz.F.kp gz.b .nil (aL hq) (ag (pvl 0 lx) (ag am ak)) (hdb:=oS.d))) (aj (bT (aX fG (aq bo (aq cP (aH aM (pvl 1 b6) am (fun _ _=>rfl)) am) am) am (bc _)) (ap (lf (aq bu (aq bu (aq bo (aH aM (pvl 1 b6) am (fun _ _=>rfl)) am) (aq dU am (aq bo (aq bo (aq cP (aH aM (pvl 1 b6) am (fun _ _=>rfl)) am) am) am))) am) (rJ (pvl 1 b6) am lK))) (ap (lf (aq bu (aq bo (aq cP (aH aM (pvl 1 b6) am (fun _ _=>rfl)) am) am) (aq dU (aq dU (aq dU am am) am) (aq bo (aq cP (aH aM (pvl 1 b6) am (fun _ _=>rfl)) am) am))) (rJ (pvl 1 b6) am lK)))) (aj (lf (au G_law_web (hr.mono (by decide)) uC.g mo.m mo.F.kp mo.b .nil (aL hq) (ag (pvl 1 b6) ak) (hdb:=uC.d)) (hV (n:=2) rfl (aF (ax (i:=2) dW.nd rfl (Or.inl eG.l)) (aF (ax (i:=3) dW.nd rfl (Or.inl hJ.l)) eX)))) (aj (aw (i:=3) dW.nd rfl (Or.inl hJ.l) (au G_law_lighter (hr.mono (by decide)) oY.g gv.m gv.F.kp gv.b .nil (aL hq) (ag (pvl 2 eG) (ag (pvl 3 hJ) (ag (aq bu am (aq bo (aH aM (pvl 1 b6) am (fun _ _=>rfl)) am)) ak))) (hdb:=oY.d))) (aj (aw (i:=4) dW.nd rfl (Or.inl qN.l) (au G_law_tolls (hr.mono (by decide)) rq.g jh.m jh.F.kp jh.b .nil (aL hq) (ag (pvl 3 hJ) ak) (hdb:=rq.d))) (aj (aw (i:=5) dW.nd rfl (Or.inr nG.l) (aq bo (aH aM (pvl 1 b6) am (fun _ _=>rfl)) (pvl 2 eG))) (aj (cq PassesOwn.never rfl (eR yI.g T.range (ag (pvl 2 eG) ak)) (ax (i:=6) dW.nd rfl (Or.inr xS.l)) (ap (bT (PW.pt (Cu (aX RM (pvl 2 eG) am (bc _)) (y3 (aX fG (cz cZ vW.g T.len jI (ag (eW rfl (gr (Nc:=["road","place"]) 1 [6] (by decide +kernel) rfl (by decide +kernel) rfl (by show ∀ (y:Str × NameKind),y∈_->y.2=NameKind.free->(aa bn).names.lookup y.1=some NameKind.cell;decide +kernel) rfl (fun _ h=>dA h) (fun i hi=>match i,hi with|0,_=>⟨"place",6,rfl,rfl,rfl,by decide +kernel⟩|i+1,hi=>absurd hi (by show ¬ i+1<1;omega))) (eY (pvl 3 hJ)) (fun _ _ _ _=>(ax (i:=0) (show (["road","place"]:List Str).Nodup from by decide +kernel) rfl (Or.inl rfl))) (fun _ _ _ _=>(uA (aX (KC K rfl) (pv 1) (A9 (Sw K rfl) (pv 0) Kc (yZ am)) (by with_unfolding_all rfl)))) (fun _ _ _ _=>(pv 0))) ak) (hn:=vW.n) (hdb:=vW.d)) (aq gY (pvl 2 eG) am) (bc _))))) (ap (aw (i:=5) dW.nd rfl (Or.inr nG.l) (pvc 6 xS))) bp))) (aj (aw (i:=7) dW.nd rfl (Or.inr xz.l) (au G_law_shape (hr.mono (by decide)) rj.g je.m je.F.kp je.b .nil (aL hq) (ag (pvl 4 qN) (ag (au G_law_down (hr.mono (by decide)) sC.g j5.m j5.F.kp j5.b .nil (aL hq) (ag (pvl 2 eG) (ag (pvl 4 qN) (ag (pvc 5 nG) ak))) (hdb:=sC.d)) ak)) (hdb:=rj.d))) (aj (aw (i:=8) dW.nd rfl (Or.inr GA.l) HF) (aj (Bl (i:=9) dW.nd rfl B6.l rfl (gr (Nc:=["y","shape","r","known"]) 1 [7,5,8] (by decide +kernel) rfl (by decide +kernel) rfl (by show ∀ (y:Str × NameKind),y∈_->y.2=NameKind.free->(aa bn).names.lookup y.1=some NameKind.cell;decide +kernel) rfl (fun _ h=>dA h) (fun i hi=>match i,hi with|0,_=>⟨"shape",7,rfl,rfl,rfl,by decide +kernel⟩|1,_=>⟨"r",5,rfl,rfl,rfl,by decide +kernel⟩|2,_=>⟨"known",8,rfl,rfl,rfl,by decide +kernel⟩|i+3,hi=>absurd hi (by show ¬ i+3<3;omega))) (eR yI.g T.range (ag (au G_law_ends (hr.mono (by decide)) rY.g j0.m j0.F.kp j0.b .nil (aL hq) (ag (pvc 7 xz) (ag (pvc 5 nG) ak)) (hdb:=rY.d)) ak)) (fun _ _ _ _=>(ax (i:=0) (show (["y","shape","r","known"]:List Str).Nodup from by decide +kernel) rfl (Or.inl rfl))) (fun _ _ _ _=>g0) (fun _ _ _ _=>(au G_law_ways (hr.mono (by decide)) (by rfl) D_law_ways.m D_law_ways.F.kp D_law_ways.b .nil (aL hq) (ag (pv 1) (ag (pv 2) (ag am (ag (pv 0) (ag (pv 3) ak)))))))) (aj (aw (i:=10) dW.nd rfl (Or.inl vK.l) (JV Lb G_Web_init (hr.mono (by decide)) Br.g T.UL b_Web .nil (aL hq) (ag (pvl 2 eG) (ag (mm yA tV.g T.list JU (ag (pvl 3 hJ) ak) (hn:=tV.n) (hdb:=tV.d)) ak)) (hdb:=Br.d))) (aj (aw (i:=11) dW.nd rfl (Or.inl qU.l) (aq Ti (cg (ag am (ag am ak))) (A9 Ky (pvl 0 lx) (yZ am) (yZ am)))) (aj (bT (aX RM (pvl 2 eG) am (bc _)) (ap (aw (i:=11) dW.nd rfl (Or.inl qU.l) (cg (ag (au G_law_cell (hr.mono (by decide)) jC.g bO.m bO.F.kp bO.b .nil (aL hq) (ag (pvl 0 lx) (ag am ak)) (hdb:=jC.d)) (ag (au G_law_cell (hr.mono (by decide)) jC.g bO.m bO.F.kp bO.b .nil (aL hq) (ag (pvl 0 lx) (ag am ak)) (hdb:=jC.d)) ak))))) bp) (aj (cq PassesOwn.never rfl (eY (pvl 11 qU)) (ax (i:=12) dW.nd rfl (Or.inl oM.l)) (aj (aw (i:=13) dW.nd rfl (Or.inl lu.l) (aq bu am (aq bo (aq cP (pvl 12 oM) am) (aH aM (cg (ag am (ag (aq F8 am am) ak))) (aq bo (pvl 12 oM) am) (fun _ _=>rfl))))) (aj (aw (i:=14) dW.nd rfl (Or.inl jX.l) (au G_worst_many (hr.mono (by decide)) gW.g dD.m dD.F.kp dD.b .nil (aL hq) (ag (pvl 10 vK) (ag (pvc 5 nG) (ag (pvl 13 lu) ak))) (hdb:=gW.d))) (aj (bT (PW.pt (Mo (ub (ul (au G_law_whole (hr.mono (by decide)) qO.g jf.m jf.F.kp jf.b .nil (aL hq) (ag (pvl 14 jX) ak) (hdb:=qO.d)))) (Mo (aX y7 (pvl 14 jX) am (bc _)) (MI (aX sA (pvl 14 jX) (au G_law_value (hr.mono (by decide)) rf.g jk.m jk.F.kp jk.b .nil (aL hq) (ag (pvl 9 B6) (ag (aq gY (pvl 13 lu) am) ak)) (hdb:=rf.d)) (bc _)))))) (ap (aO BM)) bp) (ap (bT (aX y7 (au G_worst_many (hr.mono (by decide)) gW.g dD.m dD.F.kp dD.b .nil (aL hq) (ag (pvl 10 vK) (ag (pvc 5 nG) (ag (aq bu (pvl 13 lu) (aq bo (aq bo (pvl 12 oM) am) am)) ak))) (hdb:=gW.d)) (pvl 14 jX) (bc _)) (ap (aO BM)) bp)))))) (ap (aO BM)))))))))))))))),?_⟩;rw [show L2.start ["script","numbers","many","roads","tolls","r","place","shape","known","row","web","cells","cell","wanted","found"] [V.ref a]=[some (V.ref a),none,none,none,none,none,none,none,none,none,none,none,none,none,none] from rfl];refine bD fun N1 h1=>?_;walk_at "rd";refine ⟨a,ns,30,rfl,ha,by decide,by decide,fun ln xs H1 n1 s1 en xl=>h1 _ _ (bD fun N2 h2=>?_)⟩;refine r6 fun NA NB kA kB=>?_;walk_at "rd";have x30:xs.length=30:=by omega
   have go:∀ (ys:List Int) (H2:Hp),Same H H2->H2 ln=some (.lst (ys.map V.int))->ys.length=30->(ys.getD 0 0 / 7 % 10=9->ys.getD 0 0 / 1190 % 4=1/\ys.getD 0 0 / 70 % 17<=4)->(¬ ys.getD 0 0 / 7 % 10=9->ys.getD 0 0 % 7<=5)->N2 [some (V.ref a),some (V.ref ln),none,none,none,none,none,none,none,none,none,none,none,none,none] H2:=by
     intro ys H2 s2 e2 yl h0 h0';refine h2 _ _ (bD fun N3 h3=>?_);walk_at "rd";refine ⟨ln,ys,rfl,e2,by omega,by omega,fun t l m ps rs H3 nt nl s3 et el ro g hm hst=>?_⟩;have m12:m<=12:=by
       rcases hm with ⟨c9,e⟩|⟨c9,e⟩
       . have:=(h0 c9).2;omega
       . have:=h0' c9;omega
     have fl:m<=7\/∃ z,∀ x∈rs,x.a=z\/x.b=z:=by
       rcases hm with ⟨c9,_⟩|⟨_,e⟩
       . exact .inr (hst (h0 c9).1)
       . exact .inl (by have:=Int.emod_lt_of_pos (ys.getD 0 0) (show (0:Int)<7 by decide);omega)
     refine ⟨t,rfl,_,SqT.of et,rfl,_,_,rfl,_,_,rfl,rfl,h3 _ _ (bD fun N4 h4=>?_)⟩;walk_at "rd";have e3:=s3 _ _ e2;have L0:=Int.emod_nonneg (ys.getD 28 0) (show (3:Int)≠0 by decide);have L1:=Int.emod_lt_of_pos (ys.getD 28 0) (show (0:Int)<3 by decide);refine ixL e3 (atG (by decide) (by omega)) ⟨_,rfl,by decide,?_⟩;change nJ T [V.int m,V.ref l,V.int (1+ys.getD 28 0 % 3)] H3 _ _;refine ⟨m,_,l,ps,rs,rfl,el,ro,g,by omega,by omega,fun l2 ps2 H4 nl2 s4 el2 ro2 g2=>h4 _ _ (bD fun N5 h5=>?_)⟩;have fl2:m<=7\/∃ z,∀ x∈rs.map (ltr (1+ys.getD 28 0 % 3)),x.a=z\/x.b=z:=by
       rcases fl with h|⟨z,hz⟩
       . exact .inl h
       . exact .inr ⟨z,fun x hx=>by
           obtain ⟨y,hy,rfl⟩:=List.mem_map.mp hx;exact hz y hy⟩
     have tl4:∀ x∈rs.map (ltr (1+ys.getD 28 0 % 3)),x.t<=4/\x.u<=4:=fun x hx=>by
       obtain ⟨y,hy,rfl⟩:=List.mem_map.mp hx;have q1:=Int.emod_lt_of_pos y.t (show (0:Int)<1+ys.getD 28 0 % 3 by omega);have q2:=Int.emod_lt_of_pos y.u (show (0:Int)<1+ys.getD 28 0 % 3 by omega)
       constructor
       . show 2+y.t % _<=4;omega
       . show 2+y.u % _<=4;omega
     generalize rs.map (ltr (1+ys.getD 28 0 % 3))=rs2 at ro2 g2 fl2 tl4;have e4:=s4 _ _ e3;have s24:=s2.trans (s3.trans s4);clear h3 h4 hm hst el ro fl g et nt nl s3 e3 L0 L1 s4 e2;walk_at "rd";refine ⟨l2,ps2,m,rs2,rfl,el2,ro2,g2,fun d H5 nd s5 ta=>h5 _ _ (bD fun N6 h6=>?_)⟩;have e5:=s5 _ _ e4;have m1:=g2.m1;walk_at "rd";refine ixL e5 (atG (by decide) (by omega)) ⟨_,rfl,by omega,h6 _ _ (bD fun N7 h7=>?_)⟩;have rr0:0<=ys.getD (25:Int).toNat 0 % m/\ys.getD (25:Int).toNat 0 % m<m:=⟨Int.emod_nonneg _ (by omega),Int.emod_lt_of_pos _ (by omega)⟩;generalize ys.getD (25:Int).toNat 0 % m=r0 at rr0 ⊢;have ro5:=RoadsAt.same s5 ro2;have el5:=s5 _ _ el2;have s25:=s24.trans s5;walk_at "rd";refine ⟨by omega,by omega,?_⟩;refine qu (fun i σ H'=>Same H5 H'/\∃ (r':Int) (v6:Option V),(0<=r'/\r'<m)/\σ=[some (V.ref a),some (V.ref ln),some (V.int m),some (V.ref l2),some (V.ref d),some (V.int r'),v6,none,none,none,none,none,none,none,none]) ⟨Same.refl _,r0,_,rr0,rfl⟩ ?_ ?_
     . rintro i σ H6 M BB hBB hM hi ⟨s6,r',v6,rr',rfl⟩;refine hBB _ _ ?_;rw [Int.zero_add];refine r6 fun NA' NB' kA' kB'=>?_;unfold tSl Fp tNoPart;walk_at "rd";have no:∀ H',Same H5 H'->NB' [some (V.ref a),some (V.ref ln),some (V.int m),some (V.ref l2),some (V.ref d),some (V.int r'),some (V.int (i:Int)),none,none,none,none,none,none,none,none] H':=fun H' s'=>by
         refine kB' _ _ ?_;walk_at "rd";exact hM _ _ ⟨s',r',_,rr',rfl⟩
       have yes:∀ H',Same H5 H'->NA' [some (V.ref a),some (V.ref ln),some (V.int m),some (V.ref l2),some (V.ref d),some (V.int r'),some (V.int (i:Int)),none,none,none,none,none,none,none,none] H':=fun H' s'=>by
         refine kA' _ _ ?_;walk_at "rd";exact hM _ _ ⟨s',(i:Int),_,by omega,rfl⟩
       by_cases c7:7<m
       . rw [if_pos c7];refine ⟨⟨_,SqL.of (s6 _ _ el5)⟩,fun pc npc=>?_⟩;have plen:ps2.length<=24:=by
           have h1:=Paired.length ro5;have h2:=g2.len;have h3:=g2.m24;omega
         refine lU (K:=K) (c:=true) (a:=l2) (xs:=ps2.map V.ref) (fun j ys σ H7=>Same H6 H7/\H7 pc=some (.lst ys)/\ys.length<=j/\∃ z,σ=[z,some (V.int (i:Int))]) ⟨Same.new _ npc,ah,Nat.le_refl _,_,rfl⟩ (fun j ys σ H7 _ ⟨z,_⟩=>SqL.of (z _ _ (s6 _ _ el5))) ?_ ?_
         . rintro j y ys σ H7 N7' hN7 hy ⟨s7,e7,yl,z,rfl⟩;obtain ⟨q,x,rfl,hq,hx,eq⟩:=ro5.get hy;have jl:=(List.getElem?_eq_some_iff.mp hq).1;walk_at "rd";refine ⟨q,_,rfl,SqT.of (s7 _ _ (s6 _ _ eq)),(by show ¬ (HT.sIx 4 0 none=0/\HT.sIx 4 4 (some 2)=4);decide),fun p2 np2=>?_⟩;have s8:=Same.new (HO.tup (mw (j7 x) none (some 2))) np2;refine ⟨p2,_,rfl,.inr (SqT.of ah),rfl,rfl,?_⟩;refine ⟨_,rfl,?_⟩;rw [if_neg (show ¬ (false=true) by decide)];by_cases cb:inV (V.int (i:Int)) (mw (j7 x) none (some 2))=true
           . rw [if_pos cb];refine ⟨s8 _ _ e7,bG (by omega),hN7 _ _ _ ⟨fun b o eb=>?_,ah,by rw [List.length_append];exact Nat.add_le_add yl (Nat.le_refl 1),_,rfl⟩⟩;rw [ao (ay eb npc)];exact s8 _ _ (s7 _ _ eb)
           . rw [if_neg cb];exact hN7 _ _ _ ⟨s7.trans s8,s8 _ _ e7,by omega,_,rfl⟩
         . rintro ys σ H7 ⟨s7,e7,yl,z,rfl⟩;rw [List.length_map] at yl;refine ⟨pc,rfl,_,.inl (SqL.of e7),?_⟩;by_cases ce:(ys.length:Int)=m - 1
           . rw [if_pos ce];exact yes _ (s6.trans s7)
           . rw [if_neg ce];exact no _ (s6.trans s7)
       . rw [if_neg c7];exact no _ s6
     . rintro BB σ H6 hBB ⟨s6,r,v6,rr,rfl⟩;refine hBB _ _ (h7 _ _ (bD fun N8 h8=>?_));clear h5 h6 h7 rr0;have e6:=s6 _ _ e5;have ro6:=RoadsAt.same s6 ro5;have el6:=s6 _ _ el5;have s26:=s25.trans s6;have ta6:=ta.same s6;clear e5 e4 ro5 el5 s24 s25 s6 s5 ta;obtain ⟨par,dep,R⟩:=GF g2 rr.1 rr.2;obtain ⟨tl,et,Ot⟩:=Oh g2 R rr.1 rr.2;walk_at "rd";refine ⟨d,rs2,m,r,rfl,ta6,g2,rr,par,dep,R,fun lo qs t H7 nlo s7 eo pa O hT=>?_⟩;have tlen:t.length+1=m.toNat:=O.perm_len rr.1 rr.2;refine ⟨d,lo,qs,rs2,t,m,r,par,dep,rfl,ta6.same s7,g2,R,rr,eo,pa,O,tlen,hT,fun ds kvs H8 nds s8 eds hsh=>h8 _ _ (bD fun N9 h9=>?_)⟩;have s78:=s7.trans s8;walk_at "rd";refine fun dk ndk=>h9 _ _ (bD fun N10 h10=>?_);have s9:=Same.new (HO.dT []) ndk;have ek9:upd H8 dk (HO.dT []) dk=some (.dT []):=ah;have eds9:=s9 _ _ eds;have hsh9:∀ v,0<=v->v<m->yV (upd H8 dk (HO.dT [])) m rs2 r par dep kvs v:=fun v v0 v1=>by
         obtain ⟨lv,qv,q1,q2,q3⟩:=hsh v v0 v1;exact ⟨lv,qv,q1,s9 _ _ q2,Paired.imp' (fun b ks ⟨k0,post,e1,e2⟩=>⟨k0,post,e1,s9 _ _ e2⟩) q3⟩
       have s69:=s78.trans s9;generalize upd H8 dk (HO.dT [])=H9 at s9 ek9 eds9 hsh9 s69 ⊢;have ndk6:H6 dk=none:=s78.free ndk;clear h8 h9 hsh s78 s7 s8 s9 eds eo pa;walk_at "rd";refine ⟨ds,m,rs2,r,par,dep,kvs,rfl,g2,R,rr,eds9,hsh9,fun H10 s10=>?_⟩;have cf:=NY g2 R rr et Ot;have hh:∀ v,0<=v->v<m->kd m rs2 r par v≠[]->∃ k∈kd m rs2 r par v,hvK m rs2 r par dep k=true:=fun v v0 v1 ne=>by
         obtain ⟨c,hc,ec⟩:=NZ g2 R v0 v1 ne;refine ⟨c,hc,?_⟩;unfold hvK;rw [((ba g2 R v0 v1).mp hc).2.2];exact decide_eq_true ec
       have hcA:∀ u,0<=u->u<m->u≠r->1<=cK rs2 par u/\cK rs2 par u<=1000000:=fun u u0 u1 ur=>by
         have:=qJ g2 R u0 u1 ur;unfold cK;omega
       have pdW:Pd (enN m rs2 r par dep (hvK m rs2 r par dep) r - 1) (wyT m rs2 r par dep tl r):=Kj g2 R (fun v v0 v1 vr=>(hcA v v0 v1 vr).1) hh cf _ rr.1 rr.2 (Nat.le_refl _);have upW:Up1 (wyT m rs2 r par dep tl r):=RR g2 R (fun v v0 v1 vr=>(hcA v v0 v1 vr).1) _ rr.1 rr.2 (Nat.le_refl _);have okW:=Cp (fr:=frW m rs2 r par dep tl) (be:=beW m rs2 r par dep tl) g2 R hcA _ rr.1 rr.2 (Nat.le_refl _);have dl:=rH g2 R rr.1 rr.2;have n1:1<=enN m rs2 r par dep (hvK m rs2 r par dep) r:=DX g2 R hh _ rr.1 rr.2 (Nat.le_refl _);have n12:enN m rs2 r par dep (hvK m rs2 r par dep) r<=12:=by
         have:=Ox (hv:=hvK m rs2 r par dep) g2 R _ rr.1 rr.2 (Nat.le_refl _);omega
       have bW:∀ i,i<12->(wyT m rs2 r par dep tl r i).natAbs<BIG:=fun i hi=>by
         have h1:=okW.2 20 i (by have:(2:Int)^20=1048576:=rfl;omega);refine hG (md h1) ?_;have:dgr m rs2 r par dep r*(20+20*dgr m rs2 r par dep r)<=23*480:=Nat.mul_le_mul (by omega) (by omega);omega
       generalize enN m rs2 r par dep (hvK m rs2 r par dep) r=N at pdW n1 n12 ⊢;refine ⟨_,rfl,by omega,by omega,fun pc npc=>?_⟩;rw [Int.toNat_natCast];have ek10:=s10 _ _ ek9;have eds10:=s10 _ _ eds9;have hsh10:∀ v,0<=v->v<m->yV H10 m rs2 r par dep kvs v:=fun v v0 v1=>by
         obtain ⟨lv,qv,q1,q2,q3⟩:=hsh9 v v0 v1;exact ⟨lv,qv,q1,s10 _ _ q2,Paired.imp' (fun b ks ⟨k0,post,e1,e2⟩=>⟨k0,post,e1,s10 _ _ e2⟩) q3⟩
       have s610:=s69.trans s10;have npk:pc≠dk:=fun z=>by rw [z,ek10] at npc;cases npc
       have ef:fWy m rs2 r par dep (frW m rs2 r par dep tl) (beW m rs2 r par dep tl) r 0=wyT m rs2 r par dep tl r:=by
         unfold wyT;rw [nS g2 R rr.1 rr.2]
         rfl
       refine j8 (fun i ys σ H'=>(∀ b x,H10 b=some x->b≠dk->H' b=some x)/\(∃ kn,H' dk=some (.dT kn)/\KnOk m (12*4^6) (fWy m rs2 r par dep (frW m rs2 r par dep tl) (beW m rs2 r par dep tl)) kn)/\H' pc=some (.lst ys)/\ys=((List.range i).map (wyT m rs2 r par dep tl r)).map V.int/\∃ z,σ=[z,some (V.ref ds),some (V.int r),some (V.ref dk)]) ⟨fun b x e _=>Same.new _ npc _ _ e,⟨[],Same.new _ npc _ _ ek10,(fun p hp=>by cases hp),List.nodup_nil⟩,ah,rfl,_,rfl⟩ ?_ ?_
       . rintro i ys σ H' NN hNN hi ⟨kp,⟨kn,ekn,KO⟩,ep,rfl,z,rfl⟩;walk_at "rd";rw [Int.zero_add];refine ⟨ds,dk,m,rs2,r,par,dep,frW m rs2 r par dep tl,beW m rs2 r par dep tl,kvs,kn,r,0,i,12,rfl,WyIn.kpt kp ek10 ⟨g2,R,eds10,hsh10,cf,fun v v0 v1 vn=>Sz g2 R tl4 v0 v1 vn,fun v v0 v1=>OP R fl2 v0 v1⟩,ekn,KO,rr,Nat.zero_le _,⟨?_,by decide⟩,by rw [R.root];omega,?_,fun kn' H'' kp2 ekn' KO'=>?_⟩
         . have h12:m.toNat<=12:=(by omega);exact Nat.le_trans (Nat.mul_le_mul_right _ (Nat.mul_le_mul h12 h12)) (by decide)
         . rw [List.drop_zero,iP g2 R rr.1 rr.2];exact (show dgr m rs2 r par dep r<=24 by omega)
         . rw [ef];have ep2:=kp2 _ _ ep npk;refine ⟨ep2,bG (by rw [List.length_map,List.length_map,List.length_range];omega),hNN _ _ _ ⟨fun b x eb nb=>?_,⟨kn',by rw [ao npk.symm];exact ekn',KO'⟩,ah,?_,_,rfl⟩⟩
           . rw [ao (ay eb npc)];exact kp2 _ _ (kp _ _ eb nb) nb
           . rw [List.range_succ,List.map_append,List.map_append]
             rfl
       . rintro ys σ H11 ⟨kp,_,ep,rfl,z,rfl⟩;have s611:Same H6 H11:=fun b x e=>kp b x (s610 _ _ e) (ay e ndk6);have e11:=s611 _ _ e6;have ro11:=RoadsAt.same s611 ro6;have el11:=s611 _ _ el6;have s211:=s26.trans s611;refine h10 _ _ (bD fun N11 h11=>?_);clear kp s610 hsh10 eds10 ek10 h10 hsh9 eds9 ek9 s10 s69 ndk6 ndk npc npk e6 ro6 el6 s26 ta6 hT tlen O;walk_at "rd";refine ⟨_,.inl (SqL.of el11),fun lq nlq=>?_⟩;have s12:=Same.new (HO.lst (ps2.map V.ref)) nlq;refine S8 T (c:=true) (SqL.of ah) (RoadsAt.same s12 ro11) g2 fun x tw H12 hx htw s13 W=>h11 _ _ (bD fun N12 h12=>?_);have s1113:=s12.trans s13;have ep12:=s1113 _ _ ep;have s212:=s211.trans s1113;clear h11 ep e11 ro11 el11 s12 s13 s1113 s211;unfold tSl Fp;walk_at "rd";refine ⟨aJ (by simp),fun p0 np0=>?_⟩;have t1:=Same.new (HO.lst [V.int 0,V.int 1]) np0;refine ⟨a,_,rfl,Same.seq t1 (Same.seq s212 ha),fun p1 np1=>?_⟩;rw [RX _ (by decide) (by decide),<- List.map_drop,<- List.map_take];have t2:=Same.new (HO.lst (((ns.drop (2:Int).toNat).take ((12:Int) - 2).toNat).map V.int)) np1;refine ⟨p0,p1,_,_,rfl,rfl,t2 _ _ ah,ah,aJ (by simp;omega),fun lc nlc=>h12 _ _ (bD fun N13 h13=>?_)⟩;rw [show [V.int 0,V.int 1]++((ns.drop (2:Int).toNat).take ((12:Int) - 2).toNat).map V.int=((0:Int)::1::(ns.drop (2:Int).toNat).take ((12:Int) - 2).toNat).map V.int from rfl];have t3:=(t1.trans t2).trans (Same.new (HO.lst (((0:Int)::1::(ns.drop (2:Int).toNat).take ((12:Int) - 2).toNat).map V.int)) nlc);have ec:upd (upd (upd H12 p0 (HO.lst [V.int 0,V.int 1])) p1 (HO.lst (((ns.drop (2:Int).toNat).take ((12:Int) - 2).toNat).map V.int))) lc (HO.lst (((0:Int)::1::(ns.drop (2:Int).toNat).take ((12:Int) - 2).toNat).map V.int)) lc=some (HO.lst (((0:Int)::1::(ns.drop (2:Int).toNat).take ((12:Int) - 2).toNat).map V.int)):=ah;generalize upd (upd (upd H12 p0 (HO.lst [V.int 0,V.int 1])) p1 (HO.lst (((ns.drop (2:Int).toNat).take ((12:Int) - 2).toNat).map V.int))) lc (HO.lst (((0:Int)::1::(ns.drop (2:Int).toNat).take ((12:Int) - 2).toNat).map V.int))=H13 at t3 ec ⊢;generalize (0:Int)::1::(ns.drop (2:Int).toNat).take ((12:Int) - 2).toNat=cs at ec;have W13:=W.same t3;have ep13:=t3 _ _ ep12;have s213:=s212.trans t3;clear h12 t1 t2 np0 np1 nlc W ep12 s212 nlq hx htw;have loop:∀ (lc:Addr) (cs:List Int) (H14:Hp),Same H13 H14->H14 lc=some (.lst (cs.map V.int))->N13 [some (V.ref a),some (V.ref ln),some (V.int m),some (V.ref l2),some (V.ref d),some (V.int r),v6,some (V.ref ds),some (V.ref dk),some (V.ref pc),some (V.ref x),some (V.ref lc),none,none,none] H14:=by
           intro lc cs H14 s14 ec14;refine h13 _ _ (bD fun N14 h14=>?_);walk_at "rd";refine ⟨⟨_,SqL.of ec14⟩,?_⟩;refine pi (K:=K) (xs:=cs.map V.int) (fun i σ H15=>Same H14 H15/\∃ v12 v13 v14,σ=[some (V.ref a),some (V.ref ln),some (V.int m),some (V.ref l2),some (V.ref d),some (V.int r),v6,some (V.ref ds),some (V.ref dk),some (V.ref pc),some (V.ref x),some (V.ref lc),v12,v13,v14]) ⟨Same.refl _,_,_,_,rfl⟩ (fun i σ H15 _ z=>SqL.of (z.1 _ _ ec14)) ?_ ?_
           . rintro i y σ H15 M BB hBB hM hy ⟨s15,v12,v13,v14,rfl⟩;obtain ⟨c,hc,rfl⟩:=List.getElem?_map_some hy;refine hBB _ _ ?_;refine bD fun M1 k1=>?_;walk_at "rd";refine ⟨⟨by decide,by decide⟩,⟨by decide,by decide,by decide⟩,aJ (by simp),fun p4 np4=>⟨by decide,?_⟩⟩;have s4':=Same.new (HO.lst [V.int 40,V.int (10^Int.toNat 59)]) np4;have e4':upd H15 p4 (HO.lst [V.int 40,V.int (10^Int.toNat 59)]) p4=some (.lst ([40,10^Int.toNat 59].map V.int)):=ah;have s16:=s15.trans s4';generalize upd H15 p4 (HO.lst [V.int 40,V.int (10^Int.toNat 59)])=H16 at s16 e4' ⊢;refine ixL e4' (atG (Int.emod_nonneg _ (by decide)) (by show c % 2<2;omega)) ⟨_,rfl,?_⟩;have hL:0<[40,10^Int.toNat 59].getD (c % 2).toNat (0:Int)/\[40,10^Int.toNat 59].getD (c % 2).toNat (0:Int)<=10^59:=by
               rcases (show c % 2=0\/c % 2=1 by omega) with e|e <;> rw [e] <;> decide
             generalize [40,10^Int.toNat 59].getD (c % 2).toNat (0:Int)=L at hL ⊢;have q1:=Int.emod_nonneg (c / 2) (show L≠0 by omega);have q2:=Int.emod_lt_of_pos (c / 2) hL.1;obtain ⟨n,hn1,hn2⟩:∃ n:Nat,1+c / 2 % L=((n+1:Nat):Int)/\(n:Int)<10^59:=⟨(c / 2 % L).toNat,by omega,by omega⟩;rw [hn1];refine ⟨hL.1,k1 _ _ (bD fun M2 k2=>?_)⟩;have nb:n<10^59:=by
               have e:((10^59:Nat):Int)=(10:Int)^59:=(by decide);omega
             have nb2:n+14<=2^200:=Nat.le_trans (show n+14<=10^59+14 by omega) (by decide);clear q1 q2 hL hn1 hn2 k1 e4' np4 s4' nb;have p200:(2:Nat)^200<=2^4000:=Nat.pow_le_pow_right (by decide) (by decide);walk_at "rd";have s17:=s14.trans s16;refine ⟨x,tw,m,ps2,rs2,r,n,rfl,W13.same s17,rr,Nat.le_trans (show n+1<=2^200 by omega) p200,par,dep,R,fun tl' H17 O' et' s18=>k2 _ _ (bD fun M3 k3=>?_)⟩;have etl:tl'=tl:=by
               rw [et] at et';exact (List.cons.inj et').2.symm
             subst etl;have s19:=s17.trans s18;have s16':=s16.trans s18;refine r6 fun NA NB kA kB=>?_;walk_at "rd";have u1:=(upW n).1;refine ⟨_,rfl,_,rfl,?_⟩;rw [if_neg (by decide),if_neg (by omega),show ((n+1:Nat):Int) - 1=(n:Int) by omega];refine ⟨pc,N,n,wyT m rs2 r par dep tl' r,rfl,s19 _ _ ep13,n1,n12,by omega,pdW,fun i hi=>bW i (by omega),rfl,?_⟩;rw [if_neg (fun z=>z rfl)];refine kB _ _ ?_;walk_at "rd";refine k3 _ _ ?_;refine r6 fun NA' NB' kA' kB'=>?_;walk_at "rd";obtain ⟨e,he1,he2⟩:∃ e:Nat,c % 7 % 2=(e:Int)/\e<=1:=⟨(c % 7 % 2).toNat,by omega,by omega⟩;refine ⟨by decide,by decide,?_⟩;rw [he1,show ((n+1:Nat):Int)+(e:Int)=((n+e+1:Nat):Int) by omega];refine ⟨x,tw,m,ps2,rs2,r,n+e,rfl,W13.same s19,rr,Nat.le_trans (show n+e+1<=2^200 by omega) p200,par,dep,R,fun tl2 H18 O2 et2 s20=>?_⟩;have etl:tl2=tl':=by
               rw [et] at et2;exact (List.cons.inj et2).2.symm
             subst etl;have le:=upW.le (show n<=n+e by omega);refine ⟨_,rfl,?_⟩;rw [if_neg (by omega)];refine kB' _ _ ?_;walk_at "rd";exact hM _ _ ⟨s16'.trans s20,_,_,_,rfl⟩
           . rintro BB σ H15 hBB ⟨s15,v12,v13,v14,rfl⟩;refine hBB _ _ (h14 _ _ ?_);walk_at "rd";exact k _
         refine r6 fun NA NB kA kB=>?_;walk_at "rd";by_cases c7:7<m
         . rw [if_pos c7];refine kA _ _ ?_;walk_at "rd";have ha13:=Same.seq s213 ha;refine ⟨a,ns,2,rfl,ha13,by decide,fun v1=>⟨a,ns,3,rfl,ha13,by decide,fun v2=>⟨aJ (by simp),fun l3 nl3=>?_⟩⟩⟩;exact loop l3 [v1,v2] _ (Same.new (HO.lst [V.int v1,V.int v2]) nl3) ah
         . rw [if_neg c7];refine kB _ _ ?_;walk_at "rd";exact loop lc cs H13 (Same.refl _) ec
   refine ixL en (atG (by decide) (by omega)) ⟨_,rfl,⟨by decide,by decide⟩,by decide,?_⟩;have put:∀ z:Int,(xs.set (0:Int).toNat z).getD 0 0=z:=fun z=>by
     rw [List.getD_eq_getElem?_getD];show ((xs.set 0 _)[0]?).getD 0=_;rw [List.getElem?_set_self (by omega)]
     rfl
   by_cases c9:xs.getD (0:Int).toNat 0 / 7 % 10=9
   . rw [if_pos c9];refine kA _ _ ?_;walk_at "rd";refine ixL en (atG (by decide) (by omega)) ⟨_,rfl,by decide,ixL en (atG (by decide) (by omega)) ⟨_,rfl,⟨by decide,by decide⟩,by decide,by decide,.inl ⟨by omega,by omega⟩,DZ en (by decide) (by rw [List.length_map];omega) ?_⟩⟩;rw [<- List.map_set];refine go _ _ (s1.put n1 _) ah (by rw [List.length_set];exact x30) (fun _=>?_) fun z=>?_
     . rw [put];omega
     . rw [put] at z ⊢;omega
   . rw [if_neg c9];refine kB _ _ ?_;walk_at "rd";refine ixL en (atG (by decide) (by omega)) ⟨_,rfl,⟨by decide,by decide⟩,by decide,.inl ⟨by decide,by decide⟩,.inl ⟨by decide,by decide⟩,ixL en (atG (by decide) (by omega)) ⟨_,rfl,⟨by decide,by decide⟩,by decide,.inl ⟨by omega,by omega⟩,DZ en (by decide) (by rw [List.length_map];omega) ?_⟩⟩;rw [<- List.map_set];refine go _ _ (s1.put n1 _) ah (by rw [List.length_set];exact x30) (fun z=>?_) fun z=>?_
     . rw [put] at z ⊢;omega
     . rw [put] at z ⊢;omega
end
theorem U3:aQ CX0:=fun _ _ _ _ _ h=>h
theorem all_mk {l:PySem.W.OpenLaw} {w:World} {K:PySem.W.Frag} {h:Heap} {mg:Str->Option Value} {fa:Addr} {Hh:Addr} {r9:Addr} {uZ:Addr} {sg:Addr} {mF:Addr} {d7:Addr} {xc_NoPlace:Value} {xd_NoPlace:Option Addr} {xk_NoPlace:ClassData} {xs_NoPlace:Array (Option Value)} {qn_NoPlace qq_NoPlace:Str} {qN_NoPlace:Addr} {qb_NoPlace qm_NoPlace:List Value} {qh_NoPlace:Bool} {qs_NoPlace:List Str} {qu_NoPlace:List Value} {qa_NoPlace:Bool} {qc_NoPlace:Option Bool} {qd_NoPlace:Option Addr} {q0_NoPlace q1_NoPlace q2_NoPlace q3_NoPlace q5_NoPlace:Option Value} {xc_NoRoad:Value} {xd_NoRoad:Option Addr} {xk_NoRoad:ClassData} {xs_NoRoad:Array (Option Value)} {qn_NoRoad qq_NoRoad:Str} {qN_NoRoad:Addr} {qb_NoRoad qm_NoRoad:List Value} {qh_NoRoad:Bool} {qs_NoRoad:List Str} {qu_NoRoad:List Value} {qa_NoRoad:Bool} {qc_NoRoad:Option Bool} {qd_NoRoad:Option Addr} {q0_NoRoad q1_NoRoad q2_NoRoad q3_NoRoad q5_NoRoad:Option Value} {xc_BadWish:Value} {xd_BadWish:Option Addr} {xk_BadWish:ClassData} {xs_BadWish:Array (Option Value)} {qn_BadWish qq_BadWish:Str} {qN_BadWish:Addr} {qb_BadWish qm_BadWish:List Value} {qh_BadWish:Bool} {qs_BadWish:List Str} {qu_BadWish:List Value} {qa_BadWish:Bool} {qc_BadWish:Option Bool} {qd_BadWish:Option Addr} {q0_BadWish q1_BadWish q2_BadWish q3_BadWish q5_BadWish:Option Value} {d9:Addr} {od_check_counts Bd:Option Addr} {Cm:Array (Option Value)} {oc_check_counts Cy Ck Cj rQ BX:Value} {eB:Addr} {od_is_place JG:Option Addr} {IK:Array (Option Value)} {oc_is_place Jz Jw Ja zS Iv:Value} {fX:Addr} {od_check_ends E2:Option Addr} {Fi:Array (Option Value)} {oc_check_ends EW Fn Fk wM Fg:Value} {cV:Addr} {od_other_ends ER:Option Addr} {EV:Array (Option Value)} {oc_other_ends Fh EZ Fe wT EI:Value} {dX:Addr} {od_check_joined Cc:Option Addr} {CD:Array (Option Value)} {oc_check_joined Bs Ch Cl su CA:Value} {fj:Addr} {od_check_tolls C3:Option Addr} {DQ:Array (Option Value)} {oc_check_tolls Ds DG DL tX Dy:Value} {f_Web___init__:Addr} {od_Web___init__ Cf:Option Addr} {CC:Array (Option Value)} {oc_Web___init__ BO BG Cd sE Bp:Value} {gO:Addr} {od_law_tolls Hj:Option Addr} {G2:Array (Option Value)} {oc_law_tolls F0 FJ FQ xt FO:Value} {eI:Addr} {od_law_cell JJ:Option Addr} {Ia:Array (Option Value)} {oc_law_cell Jt IR Iz Ae Iw:Value} {iA:Addr} {od_law_down Jr:Option Addr} {Jj:Array (Option Value)} {oc_law_down Ip Jy II zB IW:Value} {iU:Addr} {od_law_ends IV:Option Addr} {HW:Array (Option Value)} {oc_law_ends Iu IX Jm Af IC:Value} {fm:Addr} {od_law_lighter DI:Option Addr} {DE:Array (Option Value)} {oc_law_lighter Dv DN Dr uj Dj:Value} {gK:Addr} {od_law_mixed GZ:Option Addr} {FL:Array (Option Value)} {oc_law_mixed FU Fv HJ xP G3:Value} {fi:Addr} {od_law_numbers DV:Option Addr} {Du:Array (Option Value)} {oc_law_numbers CY Dp DD ut Dn:Value} {gP:Addr} {od_law_least Gj:Option Addr} {Hi:Array (Option Value)} {oc_law_least HC F9 F2 xB FA:Value} {gM:Addr} {od_law_shape Hw:Option Addr} {Ha:Array (Option Value)} {oc_law_shape Gr Hb FX yO GV:Value} {gJ:Addr} {od_law_value Gx:Option Addr} {Gi:Array (Option Value)} {oc_law_value HQ Fw Gk xG FN:Value} {iG:Addr} {od_law_ways Ji:Option Addr} {Jb:Array (Option Value)} {oc_law_ways I0 JI HY zV Js:Value} {iT:Addr} {od_law_toll JE:Option Addr} {Jf:Array (Option Value)} {oc_law_toll Jk JA IY zJ JH:Value} {jR:Addr} {od_law_web Ml:Option Addr} {LQ:Array (Option Value)} {oc_law_web LR Me Mb Bn Lh:Value} {gN:Addr} {od_law_whole FM:Option Addr} {Hv:Array (Option Value)} {oc_law_whole G8 GJ Fy yH GG:Value} {bg:Addr} {od_check_place D2:Option Addr} {Dk:Array (Option Value)} {oc_check_place Dh DY C5 uL DM:Value} {f7:Addr} {od_neighbours EC:Option Addr} {ET:Array (Option Value)} {oc_neighbours E7 Fo Fd wx EK:Value} {g6:Addr} {od_kids RZ:Option Addr} {R8:Array (Option Value)} {oc_kids Sb SH Sg JQ SX:Value} {fM:Addr} {od_ahead Q4:Option Addr} {Pq:Array (Option Value)} {oc_ahead OB QJ QT Hg Pr:Value} {lg:Addr} {od_down Sm:Option Addr} {Si:Array (Option Value)} {oc_down SO Sf R4 J9 ST:Value} {gR:Addr} {od_inward Nb:Option Addr} {MH:Array (Option Value)} {oc_inward NP MJ NF Et Nd:Value} {kX:Addr} {od_toll Se:Option Addr} {Sc:Array (Option Value)} {oc_toll Sr R7 R1 Kt SV:Value} {jj:Addr} {od_borne O8:Option Addr} {Qb:Array (Option Value)} {oc_borne Ru Rg Qm FW Qw:Value} {eJ:Addr} {od_is_heavy Jq:Option Addr} {Jn:Array (Option Value)} {oc_is_heavy IL JM Jh zW Ij:Value} {b9:Addr} {od_least_weights AK:Option Addr} {AX:Array (Option Value)} {oc_least_weights Ah Av Ak rd AA:Value} {jW:Addr} {od_bearers Mh:Option Addr} {Lq:Array (Option Value)} {oc_bearers My KF Lg Bj LL:Value} {fq:Addr} {od_differences Dw:Option Addr} {CO:Array (Option Value)} {oc_differences DH DU C6 uu CT:Value} {eE:Addr} {od_value_at Ii:Option Addr} {IQ:Array (Option Value)} {oc_value_at Ib Jd Jp zT HX:Value} {d5:Addr} {od_first_values BC:Option Addr} {Bu:Array (Option Value)} {oc_first_values Ct Cg CH sI Be:Value} {jM:Addr} {od_is_free Lx:Option Addr} {L5:Array (Option Value)} {oc_is_free Lj MD Mr Ce Mq:Value} {gL:Addr} {od_parted_at FP:Option Addr} {G4:Array (Option Value)} {oc_parted_at F1 FY Gs xf HR:Value} {lH:Addr} {od_parted Nv:Option Addr} {NH:Array (Option Value)} {oc_parted MN Nn Np Ew MO:Value} {iC:Addr} {od_held_for HZ:Option Addr} {Im:Array (Option Value)} {oc_held_for Jc JC Ig zZ JB:Value} {fL:Addr} {od_ways_of LP:Option Addr} {Lv:Array (Option Value)} {oc_ways_of K7 Mz K5 BI Ma:Value} {fY:Addr} {od_ways_given EG:Option Addr} {E1:Array (Option Value)} {oc_ways_given EX E3 EO wS EE:Value} {iI:Addr} {od_rests_of Iq:Option Addr} {Ih:Array (Option Value)} {oc_rests_of Ix IT IB zF JL:Value} {f_Tally___init__:Addr} {od_Tally___init__ zd:Option Addr} {zh:Array (Option Value)} {oc_Tally___init__ zj zt zo qd zq:Value} {dY:Addr} {od_check_wanted Ca:Option Addr} {B7:Array (Option Value)} {oc_check_wanted BJ BL BZ sH CF:Value} {f6:Addr} {od_worst_many E5:Option Addr} {EB:Array (Option Value)} {oc_worst_many EY Fl E4 wA ES:Value} {LW:Addr} {od_law Oo:Option Addr} {Tr:Array (Option Value)} {oc_law MX Ni Nz GN Nk:Value} {t_MOST_PLACES:Tok} {t_LEAST_TOLL:Tok} {t_MOST_TOLL:Tok} (X:K.In h) (G:h.Ns mainGlobals mg) (hfa:mg "law"=some (.ref fa))
   (yz:PySem.W.nsIn K mainGlobals "BadWeb"=some (some (.ref Hh)))
   (uV:PySem.W.nsIn K mainGlobals "NoPlace"=some (some (.ref r9)))
   (yj:PySem.W.nsIn K mainGlobals "NoRoad"=some (some (.ref uZ)))
   (vI:PySem.W.nsIn K mainGlobals "BadWish"=some (some (.ref sg)))
   (Fx:PySem.W.nsIn K mainGlobals "Web"=some (some (.ref mF)))
   (Ay:PySem.W.nsIn K mainGlobals "Tally"=some (some (.ref d7)))
   (wv:K.lookup r9=some ⟨xc_NoPlace,xd_NoPlace,.cls xk_NoPlace,xs_NoPlace⟩)
   (uS:(⟨xc_NoPlace,xd_NoPlace,.cls xk_NoPlace,xs_NoPlace⟩:Obj)=excClassObj qn_NoPlace qq_NoPlace r9 qN_NoPlace qb_NoPlace qm_NoPlace qh_NoPlace qs_NoPlace qu_NoPlace qa_NoPlace qc_NoPlace qd_NoPlace q0_NoPlace q1_NoPlace q2_NoPlace q3_NoPlace q5_NoPlace "ValueError.__new__")
   (wu:PySem.W.nsOkIn K qN_NoPlace=true)
   (wd:PySem.W.nsIn K qN_NoPlace "__init__"=some none)
   (vB:PySem.W.tailIn K bmV qm_NoPlace=true)
   (yQ:K.lookup uZ=some ⟨xc_NoRoad,xd_NoRoad,.cls xk_NoRoad,xs_NoRoad⟩)
   (yS:(⟨xc_NoRoad,xd_NoRoad,.cls xk_NoRoad,xs_NoRoad⟩:Obj)=excClassObj qn_NoRoad qq_NoRoad uZ qN_NoRoad qb_NoRoad qm_NoRoad qh_NoRoad qs_NoRoad qu_NoRoad qa_NoRoad qc_NoRoad qd_NoRoad q0_NoRoad q1_NoRoad q2_NoRoad q3_NoRoad q5_NoRoad "ValueError.__new__")
   (yD:PySem.W.nsOkIn K qN_NoRoad=true)
   (xU:PySem.W.nsIn K qN_NoRoad "__init__"=some none)
   (yR:PySem.W.tailIn K bmV qm_NoRoad=true)
   (uU:K.lookup sg=some ⟨xc_BadWish,xd_BadWish,.cls xk_BadWish,xs_BadWish⟩)
   (u9:(⟨xc_BadWish,xd_BadWish,.cls xk_BadWish,xs_BadWish⟩:Obj)=excClassObj qn_BadWish qq_BadWish sg qN_BadWish qb_BadWish qm_BadWish qh_BadWish qs_BadWish qu_BadWish qa_BadWish qc_BadWish qd_BadWish q0_BadWish q1_BadWish q2_BadWish q3_BadWish q5_BadWish "ValueError.__new__")
   (uX:PySem.W.nsOkIn K qN_BadWish=true)
   (vd:PySem.W.nsIn K qN_BadWish "__init__"=some none)
   (vG:PySem.W.tailIn K bmV qm_BadWish=true)
   (om:PySem.W.nsIn K mainGlobals "check_counts"=some (some (.ref d9)))
   (nB:K.lookup d9=some ⟨oc_check_counts,od_check_counts,.func (PySem.W.fnOf "check_counts" "check_counts" (aA bB) (az bB) (aa bB) .none Cy Ck Cj Bd rQ BX),Cm⟩)
   (oA:PySem.W.codeIn K rQ "check_counts"=true)
   (nX:PySem.W.keepIn K (.ref d9)=true)
   (vL:PySem.W.nsIn K mainGlobals "is_place"=some (some (.ref eB)))
   (u5:K.lookup eB=some ⟨oc_is_place,od_is_place,.func (PySem.W.fnOf "is_place" "is_place" (aA dj) (az dj) (aa dj) .none Jz Jw Ja JG zS Iv),IK⟩)
   (vH:PySem.W.codeIn K zS "is_place"=true)
   (wa:PySem.W.keepIn K (.ref eB)=true)
   (rE:PySem.W.nsIn K mainGlobals "check_ends"=some (some (.ref fX)))
   (rD:K.lookup fX=some ⟨oc_check_ends,od_check_ends,.func (PySem.W.fnOf "check_ends" "check_ends" (aA cr) (az cr) (aa cr) .none EW Fn Fk E2 wM Fg),Fi⟩)
   (qK:PySem.W.codeIn K wM "check_ends"=true)
   (qP:PySem.W.keepIn K (.ref fX)=true)
   (q9:PySem.W.nsIn K mainGlobals "other_ends"=some (some (.ref cV)))
   (qS:K.lookup cV=some ⟨oc_other_ends,od_other_ends,.func (PySem.W.fnOf "other_ends" "other_ends" (aA bZ) (az bZ) (aa bZ) .none Fh EZ Fe ER wT EI),EV⟩)
   (qI:PySem.W.codeIn K wT "other_ends"=true)
   (rK:PySem.W.keepIn K (.ref cV)=true)
   (ou:PySem.W.nsIn K mainGlobals "check_joined"=some (some (.ref dX)))
   (nC:K.lookup dX=some ⟨oc_check_joined,od_check_joined,.func (PySem.W.fnOf "check_joined" "check_joined" (aA aU) (az aU) (aa aU) .none Bs Ch Cl Cc su CA),CD⟩)
   (og:PySem.W.codeIn K su "check_joined"=true)
   (oz:PySem.W.keepIn K (.ref dX)=true)
   (pF:PySem.W.nsIn K mainGlobals "check_tolls"=some (some (.ref fj)))
   (pT:K.lookup fj=some ⟨oc_check_tolls,od_check_tolls,.func (PySem.W.fnOf "check_tolls" "check_tolls" (aA bJ) (az bJ) (aa bJ) .none Ds DG DL C3 tX Dy),DQ⟩)
   (p5:PySem.W.codeIn K tX "check_tolls"=true)
   (pY:PySem.W.keepIn K (.ref fj)=true)
   (nQ:PySem.W.findIn K (.ref mF) "__init__"=some (some (.ref f_Web___init__)))
   (oF:PySem.W.isFn K (.ref f_Web___init__)=true)
   (oB:K.lookup f_Web___init__=some ⟨oc_Web___init__,od_Web___init__,.func (PySem.W.fnOf "__init__" "Web.__init__" (aA aV) (az aV) (aa aV) .none BO BG Cd Cf sE Bp),CC⟩)
   (oJ:PySem.W.codeIn K sE "Web.__init__"=true)
   (nD:PySem.W.keepIn K (.ref f_Web___init__)=true)
   (sN:PySem.W.nsIn K mainGlobals "_law_tolls"=some (some (.ref gO)))
   (sM:K.lookup gO=some ⟨oc_law_tolls,od_law_tolls,.func (PySem.W.fnOf "_law_tolls" "_law_tolls" (aA b7) (az b7) (aa b7) .none F0 FJ FQ Hj xt FO),G2⟩)
   (tP:PySem.W.codeIn K xt "_law_tolls"=true)
   (tK:PySem.W.keepIn K (.ref gO)=true)
   (ww:PySem.W.nsIn K mainGlobals "_law_cell"=some (some (.ref eI)))
   (vD:K.lookup eI=some ⟨oc_law_cell,od_law_cell,.func (PySem.W.fnOf "_law_cell" "_law_cell" (aA da) (az da) (aa da) .none Jt IR Iz JJ Ae Iw),Ia⟩)
   (vA:PySem.W.codeIn K Ae "_law_cell"=true)
   (vR:PySem.W.keepIn K (.ref eI)=true)
   (vw:PySem.W.nsIn K mainGlobals "_law_down"=some (some (.ref iA)))
   (wq:K.lookup iA=some ⟨oc_law_down,od_law_down,.func (PySem.W.fnOf "_law_down" "_law_down" (aA bC) (az bC) (aa bC) .none Ip Jy II Jr zB IW),Jj⟩)
   (vJ:PySem.W.codeIn K zB "_law_down"=true)
   (vt:PySem.W.keepIn K (.ref iA)=true)
   (uR:PySem.W.nsIn K mainGlobals "_law_ends"=some (some (.ref iU)))
   (vM:K.lookup iU=some ⟨oc_law_ends,od_law_ends,.func (PySem.W.fnOf "_law_ends" "_law_ends" (aA cJ) (az cJ) (aa cJ) .none Iu IX Jm IV Af IC),HW⟩)
   (ve:PySem.W.codeIn K Af "_law_ends"=true)
   (u6:PySem.W.keepIn K (.ref iU)=true)
   (pZ:PySem.W.nsIn K mainGlobals "_law_lighter"=some (some (.ref fm)))
   (pH:K.lookup fm=some ⟨oc_law_lighter,od_law_lighter,.func (PySem.W.fnOf "_law_lighter" "_law_lighter" (aA bh) (az bh) (aa bh) .none Dv DN Dr DI uj Dj),DE⟩)
   (pB:PySem.W.codeIn K uj "_law_lighter"=true)
   (pG:PySem.W.keepIn K (.ref fm)=true)
   (tG:PySem.W.nsIn K mainGlobals "_law_mixed"=some (some (.ref gK)))
   (sR:K.lookup gK=some ⟨oc_law_mixed,od_law_mixed,.func (PySem.W.fnOf "_law_mixed" "_law_mixed" (aA cW) (az cW) (aa cW) .none FU Fv HJ GZ xP G3),FL⟩)
   (sJ:PySem.W.codeIn K xP "_law_mixed"=true)
   (tE:PySem.W.keepIn K (.ref gK)=true)
   (pS:PySem.W.nsIn K mainGlobals "_law_numbers"=some (some (.ref fi)))
   (pW:K.lookup fi=some ⟨oc_law_numbers,od_law_numbers,.func (PySem.W.fnOf "_law_numbers" "_law_numbers" (aA bd) (az bd) (aa bd) .none CY Dp DD DV ut Dn),Du⟩)
   (pV:PySem.W.codeIn K ut "_law_numbers"=true)
   (pQ:PySem.W.keepIn K (.ref fi)=true)
   (sW:PySem.W.nsIn K mainGlobals "_law_least"=some (some (.ref gP)))
   (sO:K.lookup gP=some ⟨oc_law_least,od_law_least,.func (PySem.W.fnOf "_law_least" "_law_least" (aA bE) (az bE) (aa bE) .none HC F9 F2 Gj xB FA),Hi⟩)
   (sK:PySem.W.codeIn K xB "_law_least"=true)
   (sU:PySem.W.keepIn K (.ref gP)=true)
   (sS:PySem.W.nsIn K mainGlobals "_law_shape"=some (some (.ref gM)))
   (tS:K.lookup gM=some ⟨oc_law_shape,od_law_shape,.func (PySem.W.fnOf "_law_shape" "_law_shape" (aA aR) (az aR) (aa aR) .none Gr Hb FX Hw yO GV),Ha⟩)
   (tj:PySem.W.codeIn K yO "_law_shape"=true)
   (tD:PySem.W.keepIn K (.ref gM)=true)
   (tp:PySem.W.nsIn K mainGlobals "_law_value"=some (some (.ref gJ)))
   (tF:K.lookup gJ=some ⟨oc_law_value,od_law_value,.func (PySem.W.fnOf "_law_value" "_law_value" (aA bz) (az bz) (aa bz) .none HQ Fw Gk Gx xG FN),Gi⟩)
   (tJ:PySem.W.codeIn K xG "_law_value"=true)
   (tH:PySem.W.keepIn K (.ref gJ)=true)
   (vP:PySem.W.nsIn K mainGlobals "_law_ways"=some (some (.ref iG)))
   (vY:K.lookup iG=some ⟨oc_law_ways,od_law_ways,.func (PySem.W.fnOf "_law_ways" "_law_ways" (aA aP) (az aP) (aa aP) .none I0 JI HY Ji zV Js),Jb⟩)
   (vc:PySem.W.codeIn K zV "_law_ways"=true)
   (uT:PySem.W.keepIn K (.ref iG)=true)
   (vz:PySem.W.nsIn K mainGlobals "_law_toll"=some (some (.ref iT)))
   (vN:K.lookup iT=some ⟨oc_law_toll,od_law_toll,.func (PySem.W.fnOf "_law_toll" "_law_toll" (aA fH) (az fH) (aa fH) .none Jk JA IY JE zJ JH),Jf⟩)
   (va:PySem.W.codeIn K zJ "_law_toll"=true)
   (wm:PySem.W.keepIn K (.ref iT)=true)
   (xK:PySem.W.nsIn K mainGlobals "_law_web"=some (some (.ref jR)))
   (xW:K.lookup jR=some ⟨oc_law_web,od_law_web,.func (PySem.W.fnOf "_law_web" "_law_web" (aA br) (az br) (aa br) .none LR Me Mb Ml Bn Lh),LQ⟩)
   (xN:PySem.W.codeIn K Bn "_law_web"=true)
   (xJ:PySem.W.keepIn K (.ref jR)=true)
   (tN:PySem.W.nsIn K mainGlobals "_law_whole"=some (some (.ref gN)))
   (sX:K.lookup gN=some ⟨oc_law_whole,od_law_whole,.func (PySem.W.fnOf "_law_whole" "_law_whole" (aA cI) (az cI) (aa cI) .none G8 GJ Fy FM yH GG),Hv⟩)
   (tM:PySem.W.codeIn K yH "_law_whole"=true)
   (sP:PySem.W.keepIn K (.ref gN)=true)
   (pI:PySem.W.nsIn K mainGlobals "check_place"=some (some (.ref bg)))
   (pK:K.lookup bg=some ⟨oc_check_place,od_check_place,.func (PySem.W.fnOf "check_place" "check_place" (aA bq) (az bq) (aa bq) .none Dh DY C5 D2 uL DM),Dk⟩)
   (pU:PySem.W.codeIn K uL "check_place"=true)
   (pP:PySem.W.keepIn K (.ref bg)=true)
   (qW:PySem.W.nsIn K mainGlobals "neighbours"=some (some (.ref f7)))
   (qH:K.lookup f7=some ⟨oc_neighbours,od_neighbours,.func (PySem.W.fnOf "neighbours" "neighbours" (aA b5) (az b5) (aa b5) .none E7 Fo Fd EC wx EK),ET⟩)
   (rN:PySem.W.codeIn K wx "neighbours"=true)
   (rC:PySem.W.keepIn K (.ref f7)=true)
   (G1:PySem.W.nsIn K mainGlobals "kids"=some (some (.ref g6)))
   (HL:K.lookup g6=some ⟨oc_kids,od_kids,.func (PySem.W.fnOf "kids" "kids" (aA fZ) (az fZ) (aa fZ) .none Sb SH Sg RZ JQ SX),R8⟩)
   (HS:PySem.W.codeIn K JQ "kids"=true)
   (GO:PySem.W.keepIn K (.ref g6)=true)
   (D0:PySem.W.nsIn K mainGlobals "ahead"=some (some (.ref fM)))
   (DT:K.lookup fM=some ⟨oc_ahead,od_ahead,.func (PySem.W.fnOf "ahead" "ahead" (aA cN) (az cN) (aa cN) .none OB QJ QT Q4 Hg Pr),Pq⟩)
   (CZ:PySem.W.codeIn K Hg "ahead"=true)
   (Dt:PySem.W.keepIn K (.ref fM)=true)
   (HP:PySem.W.nsIn K mainGlobals "down"=some (some (.ref lg)))
   (G0:K.lookup lg=some ⟨oc_down,od_down,.func (PySem.W.fnOf "down" "down" (aA dE) (az dE) (aa dE) .none SO Sf R4 Sm J9 ST),Si⟩)
   (Gn:PySem.W.codeIn K J9 "down"=true)
   (GY:PySem.W.keepIn K (.ref lg)=true)
   (AD:PySem.W.nsIn K mainGlobals "inward"=some (some (.ref gR)))
   (AF:K.lookup gR=some ⟨oc_inward,od_inward,.func (PySem.W.fnOf "inward" "inward" (aA cT) (az cT) (aa cT) .none NP MJ NF Nb Et Nd),MH⟩)
   (Am:PySem.W.codeIn K Et "inward"=true)
   (Ba:PySem.W.keepIn K (.ref gR)=true)
   (GU:PySem.W.nsIn K mainGlobals "toll"=some (some (.ref kX)))
   (He:K.lookup kX=some ⟨oc_toll,od_toll,.func (PySem.W.fnOf "toll" "toll" (aA dP) (az dP) (aa dP) .none Sr R7 R1 Se Kt SV),Sc⟩)
   (FR:PySem.W.codeIn K Kt "toll"=true)
   (FC:PySem.W.keepIn K (.ref kX)=true)
   (CQ:PySem.W.nsIn K mainGlobals "borne"=some (some (.ref jj)))
   (DS:K.lookup jj=some ⟨oc_borne,od_borne,.func (PySem.W.fnOf "borne" "borne" (aA eU) (az eU) (aa eU) .none Ru Rg Qm O8 FW Qw),Qb⟩)
   (DK:PySem.W.codeIn K FW "borne"=true)
   (Di:PySem.W.keepIn K (.ref jj)=true)
   (vh:PySem.W.nsIn K mainGlobals "is_heavy"=some (some (.ref eJ)))
   (wt:K.lookup eJ=some ⟨oc_is_heavy,od_is_heavy,.func (PySem.W.fnOf "is_heavy" "is_heavy" (aA cA) (az cA) (aa cA) .none IL JM Jh Jq zW Ij),Jn⟩)
   (vC:PySem.W.codeIn K zW "is_heavy"=true)
   (wg:PySem.W.keepIn K (.ref eJ)=true)
   (mM:PySem.W.nsIn K mainGlobals "least_weights"=some (some (.ref b9)))
   (mO:K.lookup b9=some ⟨oc_least_weights,od_least_weights,.func (PySem.W.fnOf "least_weights" "least_weights" (aA aN) (az aN) (aa aN) .none Ah Av Ak AK rd AA),AX⟩)
   (mU:PySem.W.codeIn K rd "least_weights"=true)
   (mR:PySem.W.keepIn K (.ref b9)=true)
   (yi:PySem.W.nsIn K mainGlobals "bearers"=some (some (.ref jW)))
   (yC:K.lookup jW=some ⟨oc_bearers,od_bearers,.func (PySem.W.fnOf "bearers" "bearers" (aA bR) (az bR) (aa bR) .none My KF Lg Mh Bj LL),Lq⟩)
   (xY:PySem.W.codeIn K Bj "bearers"=true)
   (yt:PySem.W.keepIn K (.ref jW)=true)
   (pO:PySem.W.nsIn K mainGlobals "differences"=some (some (.ref fq)))
   (pL:K.lookup fq=some ⟨oc_differences,od_differences,.func (PySem.W.fnOf "differences" "differences" (aA bH) (az bH) (aa bH) .none DH DU C6 Dw uu CT),CO⟩)
   (pA:PySem.W.codeIn K uu "differences"=true)
   (pX:PySem.W.keepIn K (.ref fq)=true)
   (uW:PySem.W.nsIn K mainGlobals "value_at"=some (some (.ref eE)))
   (wf:K.lookup eE=some ⟨oc_value_at,od_value_at,.func (PySem.W.fnOf "value_at" "value_at" (aA bU) (az bU) (aa bU) .none Ib Jd Jp Ii zT HX),IQ⟩)
   (vb:PySem.W.codeIn K zT "value_at"=true)
   (vx:PySem.W.keepIn K (.ref eE)=true)
   (nK:PySem.W.nsIn K mainGlobals "first_values"=some (some (.ref d5)))
   (nM:K.lookup d5=some ⟨oc_first_values,od_first_values,.func (PySem.W.fnOf "first_values" "first_values" (aA bI) (az bI) (aa bI) .none Ct Cg CH BC sI Be),Bu⟩)
   (n9:PySem.W.codeIn K sI "first_values"=true)
   (nL:PySem.W.keepIn K (.ref d5)=true)
   (yy:PySem.W.nsIn K mainGlobals "is_free"=some (some (.ref jM)))
   (yP:K.lookup jM=some ⟨oc_is_free,od_is_free,.func (PySem.W.fnOf "is_free" "is_free" (aA dI) (az dI) (aa dI) .none Lj MD Mr Lx Ce Mq),L5⟩)
   (yF:PySem.W.codeIn K Ce "is_free"=true)
   (xA:PySem.W.keepIn K (.ref jM)=true)
   (sZ:PySem.W.nsIn K mainGlobals "parted_at"=some (some (.ref gL)))
   (tf:K.lookup gL=some ⟨oc_parted_at,od_parted_at,.func (PySem.W.fnOf "parted_at" "parted_at" (aA b8) (az b8) (aa b8) .none F1 FY Gs FP xf HR),G4⟩)
   (tm:PySem.W.codeIn K xf "parted_at"=true)
   (tR:PySem.W.keepIn K (.ref gL)=true)
   (A6:PySem.W.nsIn K mainGlobals "parted"=some (some (.ref lH)))
   (AZ:K.lookup lH=some ⟨oc_parted,od_parted,.func (PySem.W.fnOf "parted" "parted" (aA dZ) (az dZ) (aa dZ) .none MN Nn Np Nv Ew MO),NH⟩)
   (Al:PySem.W.codeIn K Ew "parted"=true)
   (Ax:PySem.W.keepIn K (.ref lH)=true)
   (wo:PySem.W.nsIn K mainGlobals "held_for"=some (some (.ref iC)))
   (u8:K.lookup iC=some ⟨oc_held_for,od_held_for,.func (PySem.W.fnOf "held_for" "held_for" (aA cM) (az cM) (aa cM) .none Jc JC Ig HZ zZ JB),Im⟩)
   (vZ:PySem.W.codeIn K zZ "held_for"=true)
   (wj:PySem.W.keepIn K (.ref iC)=true)
   (xO:PySem.W.nsIn K mainGlobals "ways_of"=some (some (.ref fL)))
   (yq:K.lookup fL=some ⟨oc_ways_of,od_ways_of,.func (PySem.W.fnOf "ways_of" "ways_of" (aA df) (az df) (aa df) .none K7 Mz K5 LP BI Ma),Lv⟩)
   (xx:PySem.W.codeIn K BI "ways_of"=true)
   (xo:PySem.W.keepIn K (.ref fL)=true)
   (qX:PySem.W.nsIn K mainGlobals "ways_given"=some (some (.ref fY)))
   (q8:K.lookup fY=some ⟨oc_ways_given,od_ways_given,.func (PySem.W.fnOf "ways_given" "ways_given" (aA bK) (az bK) (aa bK) .none EX E3 EO EG wS EE),E1⟩)
   (rz:PySem.W.codeIn K wS "ways_given"=true)
   (qR:PySem.W.keepIn K (.ref fY)=true)
   (uQ:PySem.W.nsIn K mainGlobals "rests_of"=some (some (.ref iI)))
   (wc:K.lookup iI=some ⟨oc_rests_of,od_rests_of,.func (PySem.W.fnOf "rests_of" "rests_of" (aA aW) (az aW) (aa aW) .none Ix IT IB Iq zF JL),Ih⟩)
   (u7:PySem.W.codeIn K zF "rests_of"=true)
   (vS:PySem.W.keepIn K (.ref iI)=true)
   (lB:PySem.W.findIn K (.ref d7) "__init__"=some (some (.ref f_Tally___init__)))
   (lY:PySem.W.isFn K (.ref f_Tally___init__)=true)
   (lL:K.lookup f_Tally___init__=some ⟨oc_Tally___init__,od_Tally___init__,.func (PySem.W.fnOf "__init__" "Tally.__init__" (aA aD) (az aD) (aa aD) .none zj zt zo zd qd zq),zh⟩)
   (lG:PySem.W.codeIn K qd "Tally.__init__"=true)
   (lF:PySem.W.keepIn K (.ref f_Tally___init__)=true)
   (nP:PySem.W.nsIn K mainGlobals "check_wanted"=some (some (.ref dY)))
   (nW:K.lookup dY=some ⟨oc_check_wanted,od_check_wanted,.func (PySem.W.fnOf "check_wanted" "check_wanted" (aA bA) (az bA) (aa bA) .none BJ BL BZ Ca sH CF),B7⟩)
   (nO:PySem.W.codeIn K sH "check_wanted"=true)
   (oj:PySem.W.keepIn K (.ref dY)=true)
   (rg:PySem.W.nsIn K mainGlobals "worst_many"=some (some (.ref f6)))
   (qZ:K.lookup f6=some ⟨oc_worst_many,od_worst_many,.func (PySem.W.fnOf "worst_many" "worst_many" (aA bM) (az bM) (aa bM) .none EY Fl E4 E5 wA ES),EB⟩)
   (rM:PySem.W.codeIn K wA "worst_many"=true)
   (qQ:PySem.W.keepIn K (.ref f6)=true)
   (Fr:PySem.W.nsIn K mainGlobals "law"=some (some (.ref LW)))
   (KU:K.lookup LW=some ⟨oc_law,od_law,.func (PySem.W.fnOf "law" "law" (aA bn) (az bn) (aa bn) .none MX Ni Nz Oo GN Nk),Tr⟩)
   (LS:PySem.W.codeIn K GN "law"=true)
   (K2:PySem.W.keepIn K (.ref LW)=true)
   (F5:PySem.W.plainGet K mF Str.empty=true)
   (HE:PySem.W.hasDictIn K mF=true)
   (F3:PySem.W.plainOver K mF=true)
   (Hl:PySem.W.findIn K (.ref mF) "__setattr__"=some (some (.builtin "object.__setattr__")))
   (GI:PySem.W.makesIn K mF=true)
   (HU:PySem.W.keepIn K (.ref mF)=true)
   (n_many_Web:PySem.W.findIn K (.ref mF) "many"=some none)
   (n_roads_Web:PySem.W.findIn K (.ref mF) "roads"=some none)
   (AQ:PySem.W.plainGet K d7 Str.empty=true)
   (A7:PySem.W.hasDictIn K d7=true)
   (A4:PySem.W.plainOver K d7=true)
   (Au:PySem.W.findIn K (.ref d7) "__setattr__"=some (some (.builtin "object.__setattr__")))
   (Aq:PySem.W.makesIn K d7=true)
   (AO:PySem.W.keepIn K (.ref d7)=true)
   (n_web_Tally:PySem.W.findIn K (.ref d7) "web"=some none)
   (n_down_Tally:PySem.W.findIn K (.ref d7) "down"=some none)
   (n_weights_Tally:PySem.W.findIn K (.ref d7) "weights"=some none)
   (n_bearers_Tally:PySem.W.findIn K (.ref d7) "bearers"=some none)
   (n_kids_Tally:PySem.W.findIn K (.ref d7) "kids"=some none)
   (n_rests_Tally:PySem.W.findIn K (.ref d7) "rests"=some none)
   (z_range:PySem.W.nsIn K mainGlobals "range"=some none)
   (z_zip:PySem.W.nsIn K mainGlobals "zip"=some none)
   (z_len:PySem.W.nsIn K mainGlobals "len"=some none)
   (z_isinstance:PySem.W.nsIn K mainGlobals "isinstance"=some none)
   (z_all:PySem.W.nsIn K mainGlobals "all"=some none)
   (z_any:PySem.W.nsIn K mainGlobals "any"=some none)
   (z_int:PySem.W.nsIn K mainGlobals "int"=some none)
   (z_bool:PySem.W.nsIn K mainGlobals "bool"=some none)
   (z_tuple:PySem.W.nsIn K mainGlobals "tuple"=some none)
   (z_list:PySem.W.nsIn K mainGlobals "list"=some none)
   (z_reversed:PySem.W.nsIn K mainGlobals "reversed"=some none)
   (z_sorted:PySem.W.nsIn K mainGlobals "sorted"=some none)
   (z_min:PySem.W.nsIn K mainGlobals "min"=some none)
   (z_max:PySem.W.nsIn K mainGlobals "max"=some none)
   (z_enumerate:PySem.W.nsIn K mainGlobals "enumerate"=some none)
   (z_sum:PySem.W.nsIn K mainGlobals "sum"=some none)
   (v_MOST_PLACES:PySem.W.nsIn K mainGlobals "MOST_PLACES"=some (some (.int 24 t_MOST_PLACES)))
   (v_LEAST_TOLL:PySem.W.nsIn K mainGlobals "LEAST_TOLL"=some (some (.int 2 t_LEAST_TOLL)))
   (v_MOST_TOLL:PySem.W.nsIn K mainGlobals "MOST_TOLL"=some (some (.int 1000000 t_MOST_TOLL))) :
   ∃ fd:FuncData,(∀ (s:Shared) (v:Value),BindsTo s fd ⟨[v],[]⟩ [("script",v)])/\∀ base:Heap,K.In base->base.Ns mainGlobals mg->FnOk l.prog w K mg base (CXe l.prog w) 27 fa fd ["script"] (Fu K):=by
 have e:=hfa.symm.trans (PySem.W.mg_of X G Fr);cases e
 let T:Txt K mg:=⟨Hh,PySem.W.mg_of X G yz,r9,PySem.W.mg_of X G uV,uZ,PySem.W.mg_of X G yj,sg,PySem.W.mg_of X G vI,mF,PySem.W.mg_of X G Fx,d7,PySem.W.mg_of X G Ay,CL _ _ _ _ _ _ _ _ _ _ _ _ _ _ _ _ wv uS wu wd vB,CL _ _ _ _ _ _ _ _ _ _ _ _ _ _ _ _ yQ yS yD xU yR,CL _ _ _ _ _ _ _ _ _ _ _ _ _ _ _ _ uU u9 uX vd vG,PySem.W.mg_none_of X G z_range,PySem.W.mg_none_of X G z_zip,PySem.W.mg_none_of X G z_len,PySem.W.mg_none_of X G z_isinstance,PySem.W.mg_none_of X G z_all,PySem.W.mg_none_of X G z_any,PySem.W.mg_none_of X G z_int,PySem.W.mg_none_of X G z_bool,PySem.W.mg_none_of X G z_tuple,PySem.W.mg_none_of X G z_list,PySem.W.mg_none_of X G z_reversed,PySem.W.mg_none_of X G z_sorted,PySem.W.mg_none_of X G z_min,PySem.W.mg_none_of X G z_max,PySem.W.mg_none_of X G z_enumerate,PySem.W.mg_none_of X G z_sum,⟨_,PySem.W.mg_of X G v_MOST_PLACES⟩,⟨_,PySem.W.mg_of X G v_LEAST_TOLL⟩,⟨_,PySem.W.mg_of X G v_MOST_TOLL⟩,⟨F5,HE,F3,Hl⟩,n_many_Web,n_roads_Web,⟨AQ,A7,A4,Au⟩,n_web_Tally,n_down_Tally,n_weights_Tally,n_bearers_Tally,n_kids_Tally,n_rests_Tally⟩
 have F_check_counts:=aI (st:=bB) nB oA nX;have b_check_counts:=F_check_counts.binds (ps:=["many","roads"]) fun _ _ _ _ _ _ us hl=>by obtain ⟨u0,u1,rfl⟩:=us2 hl;rfl
 have fQ:Df K mg "check_counts" bB ["many","roads"] d9 _:=⟨F_check_counts,PySem.W.mg_of X G om,b_check_counts⟩;have F_is_place:=aI (st:=dj) u5 vH wa;have b_is_place:=F_is_place.binds (ps:=["many","number"]) fun _ _ _ _ _ _ us hl=>by obtain ⟨u0,u1,rfl⟩:=us2 hl;rfl
 have cB:Df K mg "is_place" dj ["many","number"] eB _:=⟨F_is_place,PySem.W.mg_of X G vL,b_is_place⟩;have F_check_ends:=aI (st:=cr) rD qK qP;have b_check_ends:=F_check_ends.binds (ps:=["many","road"]) fun _ _ _ _ _ _ us hl=>by obtain ⟨u0,u1,rfl⟩:=us2 hl;rfl
 have ii:Df K mg "check_ends" cr ["many","road"] fX _:=⟨F_check_ends,PySem.W.mg_of X G rE,b_check_ends⟩;have F_other_ends:=aI (st:=bZ) qS qI rK;have b_other_ends:=F_other_ends.binds (ps:=["roads","place"]) fun _ _ _ _ _ _ us hl=>by obtain ⟨u0,u1,rfl⟩:=us2 hl;rfl
 have cF:Df K mg "other_ends" bZ ["roads","place"] cV _:=⟨F_other_ends,PySem.W.mg_of X G q9,b_other_ends⟩;have F_check_joined:=aI (st:=aU) nC og oz;have b_check_joined:=F_check_joined.binds (ps:=["many","roads"]) fun _ _ _ _ _ _ us hl=>by obtain ⟨u0,u1,rfl⟩:=us2 hl;rfl
 have fP:Df K mg "check_joined" aU ["many","roads"] dX _:=⟨F_check_joined,PySem.W.mg_of X G ou,b_check_joined⟩;have F_check_tolls:=aI (st:=bJ) pT p5 pY;have b_check_tolls:=F_check_tolls.binds (ps:=["road"]) fun _ _ _ _ _ _ us hl=>by obtain ⟨u0,rfl⟩:=us1 hl;rfl
 have gq:Df K mg "check_tolls" bJ ["road"] fj _:=⟨F_check_tolls,PySem.W.mg_of X G pF,b_check_tolls⟩;have F_Web___init__:=aI (st:=aV) oB oJ nD;have b_Web:=F_Web___init__.binds (ps:=["self","many","roads"]) fun _ _ _ _ _ _ us hl=>by obtain ⟨u0,u1,u2,rfl⟩:=us3 hl;rfl
 have F_law_tolls:=aI (st:=b7) sM tP tK;have b_law_tolls:=F_law_tolls.binds (ps:=["roads"]) fun _ _ _ _ _ _ us hl=>by obtain ⟨u0,rfl⟩:=us1 hl;rfl
 have jh:Df K mg "_law_tolls" b7 ["roads"] gO _:=⟨F_law_tolls,PySem.W.mg_of X G sN,b_law_tolls⟩;have F_law_cell:=aI (st:=da) vD vA vR;have b_law_cell:=F_law_cell.binds (ps:=["script","k"]) fun _ _ _ _ _ _ us hl=>by obtain ⟨u0,u1,rfl⟩:=us2 hl;rfl
 have bO:Df K mg "_law_cell" da ["script","k"] eI _:=⟨F_law_cell,PySem.W.mg_of X G ww,b_law_cell⟩;have F_law_down:=aI (st:=bC) wq vJ vt;have b_law_down:=F_law_down.binds (ps:=["many","tolls","r"]) fun _ _ _ _ _ _ us hl=>by obtain ⟨u0,u1,u2,rfl⟩:=us3 hl;rfl
 have j5:Df K mg "_law_down" bC ["many","tolls","r"] iA _:=⟨F_law_down,PySem.W.mg_of X G vw,b_law_down⟩;have F_law_ends:=aI (st:=cJ) vM ve u6;have b_law_ends:=F_law_ends.binds (ps:=["shape","r"]) fun _ _ _ _ _ _ us hl=>by obtain ⟨u0,u1,rfl⟩:=us2 hl;rfl
 have j0:Df K mg "_law_ends" cJ ["shape","r"] iU _:=⟨F_law_ends,PySem.W.mg_of X G uR,b_law_ends⟩;have F_law_lighter:=aI (st:=bh) pH pB pG;have b_law_lighter:=F_law_lighter.binds (ps:=["many","roads","limit"]) fun _ _ _ _ _ _ us hl=>by obtain ⟨u0,u1,u2,rfl⟩:=us3 hl;rfl
 have gv:Df K mg "_law_lighter" bh ["many","roads","limit"] fm _:=⟨F_law_lighter,PySem.W.mg_of X G pZ,b_law_lighter⟩;have F_law_mixed:=aI (st:=cW) sR sJ tE;have b_law_mixed:=F_law_mixed.binds (ps:=["cell","k"]) fun _ _ _ _ _ _ us hl=>by obtain ⟨u0,u1,rfl⟩:=us2 hl;rfl
 have eu:Df K mg "_law_mixed" cW ["cell","k"] gK _:=⟨F_law_mixed,PySem.W.mg_of X G tG,b_law_mixed⟩;have F_law_numbers:=aI (st:=bd) pW pV pQ;have b_law_numbers:=F_law_numbers.binds (ps:=["script","many"]) fun _ _ _ _ _ _ us hl=>by obtain ⟨u0,u1,rfl⟩:=us2 hl;rfl
 have gz:Df K mg "_law_numbers" bd ["script","many"] fi _:=⟨F_law_numbers,PySem.W.mg_of X G pS,b_law_numbers⟩;have F_law_least:=aI (st:=bE) sO sK sU;have b_law_least:=F_law_least.binds (ps:=["tolls","order"]) fun _ _ _ _ _ _ us hl=>by obtain ⟨u0,u1,rfl⟩:=us2 hl;rfl
 have jm:Df K mg "_law_least" bE ["tolls","order"] gP _:=⟨F_law_least,PySem.W.mg_of X G sW,b_law_least⟩;have F_law_shape:=aI (st:=aR) tS tj tD;have b_law_shape:=F_law_shape.binds (ps:=["tolls","order"]) fun _ _ _ _ _ _ us hl=>by obtain ⟨u0,u1,rfl⟩:=us2 hl;rfl
 have je:Df K mg "_law_shape" aR ["tolls","order"] gM _:=⟨F_law_shape,PySem.W.mg_of X G sS,b_law_shape⟩;have F_law_value:=aI (st:=bz) tF tJ tH;have b_law_value:=F_law_value.binds (ps:=["row","y"]) fun _ _ _ _ _ _ us hl=>by obtain ⟨u0,u1,rfl⟩:=us2 hl;rfl
 have jk:Df K mg "_law_value" bz ["row","y"] gJ _:=⟨F_law_value,PySem.W.mg_of X G tp,b_law_value⟩;have F_law_ways:=aI (st:=aP) vY vc uT;have b_law_ways:=F_law_ways.binds (ps:=["shape","place","k","left","known"]) fun _ _ _ _ _ _ us hl=>by obtain ⟨u0,u1,u2,u3,u4,rfl⟩:=us5 hl;rfl
 have D_law_ways:Df K mg "_law_ways" aP ["shape","place","k","left","known"] iG _:=⟨F_law_ways,PySem.W.mg_of X G vP,b_law_ways⟩;have F_law_toll:=aI (st:=fH) vN va wm;have b_law_toll:=F_law_toll.binds (ps:=["rest"]) fun _ _ _ _ _ _ us hl=>by obtain ⟨u0,rfl⟩:=us1 hl;rfl
 have fE:Df K mg "_law_toll" fH ["rest"] iT _:=⟨F_law_toll,PySem.W.mg_of X G vz,b_law_toll⟩;have F_law_web:=aI (st:=br) xW xN xJ;have b_law_web:=F_law_web.binds (ps:=["numbers"]) fun _ _ _ _ _ _ us hl=>by obtain ⟨u0,rfl⟩:=us1 hl;rfl
 have mo:Df K mg "_law_web" br ["numbers"] jR _:=⟨F_law_web,PySem.W.mg_of X G xK,b_law_web⟩;have F_law_whole:=aI (st:=cI) sX tM sP;have b_law_whole:=F_law_whole.binds (ps:=["found"]) fun _ _ _ _ _ _ us hl=>by obtain ⟨u0,rfl⟩:=us1 hl;rfl
 have jf:Df K mg "_law_whole" cI ["found"] gN _:=⟨F_law_whole,PySem.W.mg_of X G tN,b_law_whole⟩;have F_check_place:=aI (st:=bq) pK pU pP;have b_check_place:=F_check_place.binds (ps:=["web","number"]) fun _ _ _ _ _ _ us hl=>by obtain ⟨u0,u1,rfl⟩:=us2 hl;rfl
 have aB:Df K mg "check_place" bq ["web","number"] bg _:=⟨F_check_place,PySem.W.mg_of X G pI,b_check_place⟩;have F_neighbours:=aI (st:=b5) qH rN rC;have b_neighbours:=F_neighbours.binds (ps:=["web","a"]) fun _ _ _ _ _ _ us hl=>by obtain ⟨u0,u1,rfl⟩:=us2 hl;rfl
 have ik:Df K mg "neighbours" b5 ["web","a"] f7 _:=⟨F_neighbours,PySem.W.mg_of X G qW,b_neighbours⟩;have F_kids:=aI (st:=fZ) HL HS GO;have b_kids:=F_kids.binds (ps:=["web","place","front"]) fun _ _ _ _ _ _ us hl=>by obtain ⟨u0,u1,u2,rfl⟩:=us3 hl;rfl
 have fB:Df K mg "kids" fZ ["web","place","front"] g6 _:=⟨F_kids,PySem.W.mg_of X G G1,b_kids⟩;have F_ahead:=aI (st:=cN) DT CZ Dt;have b_ahead:=F_ahead.binds (ps:=["web","r"]) fun _ _ _ _ _ _ us hl=>by obtain ⟨u0,u1,rfl⟩:=us2 hl;rfl
 have dG:Df K mg "ahead" cN ["web","r"] fM _:=⟨F_ahead,PySem.W.mg_of X G D0,b_ahead⟩;have F_down:=aI (st:=dE) G0 Gn GY;have b_down:=F_down.binds (ps:=["web","r"]) fun _ _ _ _ _ _ us hl=>by obtain ⟨u0,u1,rfl⟩:=us2 hl;rfl
 have jN:Df K mg "down" dE ["web","r"] lg _:=⟨F_down,PySem.W.mg_of X G HP,b_down⟩;have F_inward:=aI (st:=cT) AF Am Ba;have b_inward:=F_inward.binds (ps:=["web","r"]) fun _ _ _ _ _ _ us hl=>by obtain ⟨u0,u1,rfl⟩:=us2 hl;rfl
 have fV:Df K mg "inward" cT ["web","r"] gR _:=⟨F_inward,PySem.W.mg_of X G AD,b_inward⟩;have F_toll:=aI (st:=dP) He FR FC;have b_toll:=F_toll.binds (ps:=["web","a","b"]) fun _ _ _ _ _ _ us hl=>by obtain ⟨u0,u1,u2,rfl⟩:=us3 hl;rfl
 have jJ:Df K mg "toll" dP ["web","a","b"] kX _:=⟨F_toll,PySem.W.mg_of X G GU,b_toll⟩;have F_borne:=aI (st:=eU) DS DK Di;have b_borne:=F_borne.binds (ps:=["web","weights","place","front"]) fun _ _ _ _ _ _ us hl=>by obtain ⟨u0,u1,u2,u3,rfl⟩:=us4 hl;rfl
 have ia:Df K mg "borne" eU ["web","weights","place","front"] jj _:=⟨F_borne,PySem.W.mg_of X G CQ,b_borne⟩;have F_is_heavy:=aI (st:=cA) wt vC wg;have b_is_heavy:=F_is_heavy.binds (ps:=["web","weights","place","front"]) fun _ _ _ _ _ _ us hl=>by obtain ⟨u0,u1,u2,u3,rfl⟩:=us4 hl;rfl
 have dB:Df K mg "is_heavy" cA ["web","weights","place","front"] eJ _:=⟨F_is_heavy,PySem.W.mg_of X G vh,b_is_heavy⟩;have F_least_weights:=aI (st:=aN) mO mU mR;have b_least_weights:=F_least_weights.binds (ps:=["web","r"]) fun _ _ _ _ _ _ us hl=>by obtain ⟨u0,u1,rfl⟩:=us2 hl;rfl
 have bN:Df K mg "least_weights" aN ["web","r"] b9 _:=⟨F_least_weights,PySem.W.mg_of X G mM,b_least_weights⟩;have F_bearers:=aI (st:=bR) yC xY yt;have b_bearers:=F_bearers.binds (ps:=["web","r"]) fun _ _ _ _ _ _ us hl=>by obtain ⟨u0,u1,rfl⟩:=us2 hl;rfl
 have mj:Df K mg "bearers" bR ["web","r"] jW _:=⟨F_bearers,PySem.W.mg_of X G yi,b_bearers⟩;have F_differences:=aI (st:=bH) pL pA pX;have b_differences:=F_differences.binds (ps:=["values"]) fun _ _ _ _ _ _ us hl=>by obtain ⟨u0,rfl⟩:=us1 hl;rfl
 have c8:Df K mg "differences" bH ["values"] fq _:=⟨F_differences,PySem.W.mg_of X G pO,b_differences⟩;have F_value_at:=aI (st:=bU) wf vb vx;have b_value_at:=F_value_at.binds (ps:=["found","at"]) fun _ _ _ _ _ _ us hl=>by obtain ⟨u0,u1,rfl⟩:=us2 hl;rfl
 have dz:Df K mg "value_at" bU ["found","at"] eE _:=⟨F_value_at,PySem.W.mg_of X G uW,b_value_at⟩;have F_first_values:=aI (st:=bI) nM n9 nL;have b_first_values:=F_first_values.binds (ps:=["found","many"]) fun _ _ _ _ _ _ us hl=>by obtain ⟨u0,u1,rfl⟩:=us2 hl;rfl
 have fS:Df K mg "first_values" bI ["found","many"] d5 _:=⟨F_first_values,PySem.W.mg_of X G nK,b_first_values⟩;have F_is_free:=aI (st:=dI) yP yF xA;have b_is_free:=F_is_free.binds (ps:=["tally","place","kid"]) fun _ _ _ _ _ _ us hl=>by obtain ⟨u0,u1,u2,rfl⟩:=us3 hl;rfl
 have mi:Df K mg "is_free" dI ["tally","place","kid"] jM _:=⟨F_is_free,PySem.W.mg_of X G yy,b_is_free⟩;have F_parted_at:=aI (st:=b8) tf tm tR;have b_parted_at:=F_parted_at.binds (ps:=["one","other","at"]) fun _ _ _ _ _ _ us hl=>by obtain ⟨u0,u1,u2,rfl⟩:=us3 hl;rfl
 have jo:Df K mg "parted_at" b8 ["one","other","at"] gL _:=⟨F_parted_at,PySem.W.mg_of X G sZ,b_parted_at⟩;have F_parted:=aI (st:=dZ) AZ Al Ax;have b_parted:=F_parted.binds (ps:=["one","other"]) fun _ _ _ _ _ _ us hl=>by obtain ⟨u0,u1,rfl⟩:=us2 hl;rfl
 have nR:Df K mg "parted" dZ ["one","other"] lH _:=⟨F_parted,PySem.W.mg_of X G A6,b_parted⟩;have F_held_for:=aI (st:=cM) u8 vZ wj;have b_held_for:=F_held_for.binds (ps:=["tally","place","kid","given"]) fun _ _ _ _ _ _ us hl=>by obtain ⟨u0,u1,u2,u3,rfl⟩:=us4 hl;rfl
 have kf:Df K mg "held_for" cM ["tally","place","kid","given"] iC _:=⟨F_held_for,PySem.W.mg_of X G wo,b_held_for⟩;have F_ways_of:=aI (st:=df) yq xx xo;have b_ways_of:=F_ways_of.binds (ps:=["tally","place","held"]) fun _ _ _ _ _ _ us hl=>by obtain ⟨u0,u1,u2,rfl⟩:=us3 hl;rfl
 have eP:Df K mg "ways_of" df ["tally","place","held"] fL _:=⟨F_ways_of,PySem.W.mg_of X G xO,b_ways_of⟩;have F_ways_given:=aI (st:=bK) q8 rz qR;have b_ways_given:=F_ways_given.binds (ps:=["tally","place","kid","given"]) fun _ _ _ _ _ _ us hl=>by obtain ⟨u0,u1,u2,u3,rfl⟩:=us4 hl;rfl
 have ie:Df K mg "ways_given" bK ["tally","place","kid","given"] fY _:=⟨F_ways_given,PySem.W.mg_of X G qX,b_ways_given⟩;have F_rests_of:=aI (st:=aW) wc u7 vS;have b_rests_of:=F_rests_of.binds (ps:=["tally","place"]) fun _ _ _ _ _ _ us hl=>by obtain ⟨u0,u1,rfl⟩:=us2 hl;rfl
 have j6:Df K mg "rests_of" aW ["tally","place"] iI _:=⟨F_rests_of,PySem.W.mg_of X G uQ,b_rests_of⟩;have F_Tally___init__:=aI (st:=aD) lL lG lF;have b_Tally:=F_Tally___init__.binds (ps:=["self","web","r"]) fun _ _ _ _ _ _ us hl=>by obtain ⟨u0,u1,u2,rfl⟩:=us3 hl;rfl
 have F_check_wanted:=aI (st:=bA) nW nO oj;have b_check_wanted:=F_check_wanted.binds (ps:=["web","r","wanted"]) fun _ _ _ _ _ _ us hl=>by obtain ⟨u0,u1,u2,rfl⟩:=us3 hl;rfl
 have fT:Df K mg "check_wanted" bA ["web","r","wanted"] dY _:=⟨F_check_wanted,PySem.W.mg_of X G nP,b_check_wanted⟩;have F_worst_many:=aI (st:=bM) qZ rM qQ;have b_worst_many:=F_worst_many.binds (ps:=["web","r","wanted"]) fun _ _ _ _ _ _ us hl=>by obtain ⟨u0,u1,u2,rfl⟩:=us3 hl;rfl
 have dD:Df K mg "worst_many" bM ["web","r","wanted"] f6 _:=⟨F_worst_many,PySem.W.mg_of X G rg,b_worst_many⟩;have F_law:=aI (st:=bn) KU LS K2;have b_law:=F_law.binds (ps:=["script"]) fun _ _ _ _ _ _ us hl=>by obtain ⟨u0,rfl⟩:=us1 hl;rfl
 have UJ:Df K mg "law" bn ["script"] fa _:=⟨F_law,PySem.W.mg_of X G Fr,b_law⟩;refine ⟨PySem.W.fnOf "law" "law" (aA bn) (az bn) (aa bn) .none MX Ni Nz Oo GN Nk,fun s v=>.of_eq rfl,fun base _ _=>?_⟩;have Lb:Mk K T.Web f_Web___init__:=⟨GI,nQ,oF,HU⟩;have C1:Mk K T.Tally f_Tally___init__:=⟨Aq,lB,lY,AO⟩;have G_check_counts:=BW (P:=l.prog) (w:=w) (base:=base) T aG fQ;have G_is_place:=Ik (P:=l.prog) (w:=w) (base:=base) T aG cB;have G_check_ends:=E9 (P:=l.prog) (w:=w) (base:=base) T aG ii cB G_is_place;have G_other_ends:=Fj (P:=l.prog) (w:=w) (base:=base) T aG cF;have G_check_joined:=Bg (P:=l.prog) (w:=w) (base:=base) T aG fP cF G_other_ends;have G_check_tolls:=DR (P:=l.prog) (w:=w) (base:=base) T aG gq;have G_Web_init:=Bt (P:=l.prog) (w:=w) (base:=base) T aG F_Web___init__ fQ G_check_counts ii G_check_ends fP G_check_joined gq G_check_tolls;have G_law_tolls:=FT (P:=l.prog) (w:=w) (base:=base) T aG jh;have G_law_cell:=Il (P:=l.prog) (w:=w) (base:=base) T aG bO;have G_law_down:=Jg (P:=l.prog) (w:=w) (base:=base) T aG j5;have G_law_ends:=Ju (P:=l.prog) (w:=w) (base:=base) T aG j0;have G_law_lighter:=CP (P:=l.prog) (w:=w) (base:=base) T aG gv;have G_law_mixed:=FF (P:=l.prog) (w:=w) (base:=base) T aG eu;have G_law_numbers:=Dc (P:=l.prog) (w:=w) (base:=base) T aG gz bO G_law_cell eu G_law_mixed;have G_law_least:=HN (P:=l.prog) (w:=w) (base:=base) T aG jm;have G_law_shape:=Hf (P:=l.prog) (w:=w) (base:=base) T aG je jm G_law_least;have G_law_value:=Gq (P:=l.prog) (w:=w) (base:=base) T aG jk;have G_law_ways:=JF (P:=l.prog) (w:=w) (base:=base) T aG D_law_ways;have G_law_toll:=IH (P:=l.prog) (w:=w) (base:=base) T aG fE;have G_law_web:=LB (P:=l.prog) (w:=w) (base:=base) T aG mo fE G_law_toll;have G_law_whole:=GH (P:=l.prog) (w:=w) (base:=base) T aG jf;have G_check_place:=Dm (P:=l.prog) (w:=w) (base:=base) T aG aB cB G_is_place;have G_neighbours:=E6 (P:=l.prog) (w:=w) (base:=base) T aG ik aB G_check_place cF G_other_ends;have G_kids:=SS (P:=l.prog) (w:=w) (base:=base) T aG fB ik G_neighbours;have G_ahead:=QS (P:=l.prog) (w:=w) (base:=base) T aG dG aB G_check_place fB G_kids;have G_down:=SU (P:=l.prog) (w:=w) (base:=base) T aG jN dG G_ahead fB G_kids;have G_inward:=Ng (P:=l.prog) (w:=w) (base:=base) T aG fV dG G_ahead jN G_down;have G_toll:=SW (P:=l.prog) (w:=w) (base:=base) T aG jJ aB G_check_place;have G_borne:=Pj (P:=l.prog) (w:=w) (base:=base) T aG ia jJ G_toll;have G_is_heavy:=IA (P:=l.prog) (w:=w) (base:=base) T aG dB ia G_borne;have G_least_weights:=AH (P:=l.prog) (w:=w) (base:=base) T aG bN ia G_borne fV G_inward;have G_bearers:=LV (P:=l.prog) (w:=w) (base:=base) T aG mj fV G_inward dB G_is_heavy bN G_least_weights;have G_differences:=DJ (P:=l.prog) (w:=w) (base:=base) T aG c8;have G_value_at:=Jl (P:=l.prog) (w:=w) (base:=base) T aG dz;have G_first_values:=CJ (P:=l.prog) (w:=w) (base:=base) T aG fS dz G_value_at;have G_is_free:=L3 (P:=l.prog) (w:=w) (base:=base) T aG mi dB G_is_heavy;have G_parted_at:=FH (P:=l.prog) (w:=w) (base:=base) T aG jo;have G_parted:=M5 (P:=l.prog) (w:=w) (base:=base) T aG nR jo G_parted_at;have G_held_for:=IP (P:=l.prog) (w:=w) (base:=base) T aG kf jJ G_toll;have G_ways_of:=MA (P:=l.prog) (w:=w) (base:=base) T aG eP dz G_value_at;have G_ways_given:=Fb (P:=l.prog) (w:=w) (base:=base) T aG ie kf G_held_for eP G_ways_of;have G_rests_of:=IJ (P:=l.prog) (w:=w) (base:=base) T aG j6 c8 G_differences fS G_first_values mi G_is_free nR G_parted ie G_ways_given;have G_Tally_init:=zz (P:=l.prog) (w:=w) (base:=base) T aG F_Tally___init__ dG G_ahead mj G_bearers jN G_down fB G_kids bN G_least_weights j6 G_rests_of;have G_check_wanted:=B9 (P:=l.prog) (w:=w) (base:=base) T aG fT aB G_check_place;have G_worst_many:=EH (P:=l.prog) (w:=w) (base:=base) T aG dD F_Tally___init__ b_Tally C1 G_Tally_init fT G_check_wanted eP G_ways_of;have G_law:=TJ (P:=l.prog) (w:=w) (base:=base) T aG UJ F_Web___init__ b_Web Lb G_Web_init bO G_law_cell j5 G_law_down j0 G_law_ends gv G_law_lighter gz G_law_numbers je G_law_shape jh G_law_tolls jk G_law_value D_law_ways G_law_ways mo G_law_web jf G_law_whole dD G_worst_many;exact G_law
theorem walk {l:PySem.W.OpenLaw} {q:Program} {loose:List Str} {XP:(Str->Option Value)->Heap->Prop} {YP:World->Heap->Prop} {d:DefRec} {K:Params->PySem.W.Frag} (hn:l.most=some 63) (hdf:d.params.defaults=[])
   (hY:∀ (w:World) (h:Heap),YP w h->(K w.params).In h)
   (F:∀ (w:World) (mg:Str->Option Value) (fa:Addr) (h:Heap),(K w.params).In h->h.Ns mainGlobals mg->mg d.name=some (.ref fa) ->
     ∃ fd:FuncData,(∀ (s:Shared) (u:Value),BindsTo s fd ⟨[u],[]⟩ [("script",u)])/\∀ base:Heap,(K w.params).In base->base.Ns mainGlobals mg->FnOk l.prog w (K w.params) mg base (CXe l.prog w) 27 fa fd ["script"] (Fu (K w.params))) :
   PySem.W.WalkO q loose XP YP l.row.toRowW d [] (fun f vs=>PySem.call f vs) :=
 L2.walk_of (n:=63) (k:=27) (x:="script") (CX:=fun w=>(CXe l.prog w)) (sp:=fun w=>Fu (K w.params)) hn (by decide) hdf ⟨rfl,by decide,by decide⟩ hY F (fun _ _ a ns hl _ hS=>⟨a,ns,rfl,hS,hl,fun _=>rfl⟩) fun _ _ _ _ _ z=>aG _ _ _ _ _ z
end Pk
open PySem PySem.W PyProof.Rows
set_option maxRecDepth 100000 in
set_option maxHeartbeats 0 in
theorem PySem.Challenge.cw_pebbletoll_k48_whole_far_counts_holds : PySem.Challenge.rw_pebbletoll_k48_whole_far_counts.Holds := by
 w_on;o_law
 refine PySem.W.holds_open (q:=Hd.qq) (loose:=[]) (Xt:=(fun s=>PySem.W.xlAt Hd.qq [] s && PySem.W.recOk (PySem.W.RowW.records (PySem.W.OpenRow.toRowW (PySem.Challenge.rw_pebbletoll_k48_whole_far_counts).row)) s)) (XP:=PySem.W.XL Hd.qq []) (Yf:=PySem.W.Hook.obs (PySem.W.kHook Hd.KK Hd.asK Hd.asK_eq)) (Ya:=PySem.W.Hook.val (PySem.W.kHook Hd.KK Hd.asK Hd.asK_eq)) (YP:=PySem.W.Hook.says (PySem.W.kHook Hd.KK Hd.asK Hd.asK_eq)) (N:=5984) Hd.left (PySem.W.Hook.of (PySem.W.kHook Hd.KK Hd.asK Hd.asK_eq)) (PySem.W.Hook.keeps (PySem.W.kHook Hd.KK Hd.asK Hd.asK_eq)) (fun s e=>PySem.W.xl_of s (Bool.and_eq_true_iff.mp e).1) PySem.W.XL.keeps (by rfl) (by rfl) (by rfl) (fun s e=>PySem.W.recFacts_of (Bool.and_eq_true_iff.mp e).2) (by rfl) (by assumption) (by decide +kernel) ⟨rfl,rfl,rfl,rfl,rfl,by decide +kernel⟩ ?hw ?hc
 (case hw=>w_witness2)
 k_fill
 refine Pk.walk (l:=PySem.Challenge.rw_pebbletoll_k48_whole_far_counts) rfl rfl (fun w h Y=>PySem.W.kIn_of Y) ?F
 case F =>
   intro w mg fa h KX G hmg;refine' Pk.all_mk KX G hmg ?yz ?uV ?yj ?vI ?Fx ?Ay ?wv ?uS ?wu ?wd ?vB ?yQ ?yS ?yD ?xU ?yR ?uU ?u9 ?uX ?vd ?vG ?om ?nB ?oA ?nX ?vL ?u5 ?vH ?wa ?rE ?rD ?qK ?qP ?q9 ?qS ?qI ?rK ?ou ?nC ?og ?oz ?pF ?pT ?p5 ?pY ?nQ ?oF ?oB ?oJ ?nD ?sN ?sM ?tP ?tK ?ww ?vD ?vA ?vR ?vw ?wq ?vJ ?vt ?uR ?vM ?ve ?u6 ?pZ ?pH ?pB ?pG ?tG ?sR ?sJ ?tE ?pS ?pW ?pV ?pQ ?sW ?sO ?sK ?sU ?sS ?tS ?tj ?tD ?tp ?tF ?tJ ?tH ?vP ?vY ?vc ?uT ?vz ?vN ?va ?wm ?xK ?xW ?xN ?xJ ?tN ?sX ?tM ?sP ?pI ?pK ?pU ?pP ?qW ?qH ?rN ?rC ?G1 ?HL ?HS ?GO ?D0 ?DT ?CZ ?Dt ?HP ?G0 ?Gn ?GY ?AD ?AF ?Am ?Ba ?GU ?He ?FR ?FC ?CQ ?DS ?DK ?Di ?vh ?wt ?vC ?wg ?mM ?mO ?mU ?mR ?yi ?yC ?xY ?yt ?pO ?pL ?pA ?pX ?uW ?wf ?vb ?vx ?nK ?nM ?n9 ?nL ?yy ?yP ?yF ?xA ?sZ ?tf ?tm ?tR ?A6 ?AZ ?Al ?Ax ?wo ?u8 ?vZ ?wj ?xO ?yq ?xx ?xo ?qX ?q8 ?rz ?qR ?uQ ?wc ?u7 ?vS ?lB ?lY ?lL ?lG ?lF ?nP ?nW ?nO ?oj ?rg ?qZ ?rM ?qQ ?Fr ?KU ?LS ?K2 ?F5 ?HE ?F3 ?Hl ?GI ?HU ?n_many_Web ?n_roads_Web ?AQ ?A7 ?A4 ?Au ?Aq ?AO ?n_web_Tally ?n_down_Tally ?n_weights_Tally ?n_bearers_Tally ?n_kids_Tally ?n_rests_Tally ?z_range ?z_zip ?z_len ?z_isinstance ?z_all ?z_any ?z_int ?z_bool ?z_tuple ?z_list ?z_reversed ?z_sorted ?z_min ?z_max ?z_enumerate ?z_sum ?v_MOST_PLACES ?v_LEAST_TOLL ?v_MOST_TOLL
   (case yz=>k_is)
   (case uV=>k_is)
   (case yj=>k_is)
   (case vI=>k_is)
   (case Fx=>k_is)
   (case Ay=>k_is)
   (case wv=>k_is)
   (case uS=>rfl)
   (case wu=>kernel_rfl)
   (case wd=>k_is)
   (case vB=>kernel_rfl)
   (case yQ=>k_is)
   (case yS=>rfl)
   (case yD=>kernel_rfl)
   (case xU=>k_is)
   (case yR=>kernel_rfl)
   (case uU=>k_is)
   (case u9=>rfl)
   (case uX=>kernel_rfl)
   (case vd=>k_is)
   (case vG=>kernel_rfl)
   (case om=>k_is)
   (case nB=>k_is)
   (case oA=>k_is)
   (case nX=>k_is)
   (case vL=>k_is)
   (case u5=>k_is)
   (case vH=>k_is)
   (case wa=>k_is)
   (case rE=>k_is)
   (case rD=>k_is)
   (case qK=>k_is)
   (case qP=>k_is)
   (case q9=>k_is)
   (case qS=>k_is)
   (case qI=>k_is)
   (case rK=>k_is)
   (case ou=>k_is)
   (case nC=>k_is)
   (case og=>k_is)
   (case oz=>k_is)
   (case pF=>k_is)
   (case pT=>k_is)
   (case p5=>k_is)
   (case pY=>k_is)
   (case nQ=>k_is)
   (case oF=>k_is)
   (case oB=>k_is)
   (case oJ=>k_is)
   (case nD=>k_is)
   (case sN=>k_is)
   (case sM=>k_is)
   (case tP=>k_is)
   (case tK=>k_is)
   (case ww=>k_is)
   (case vD=>k_is)
   (case vA=>k_is)
   (case vR=>k_is)
   (case vw=>k_is)
   (case wq=>k_is)
   (case vJ=>k_is)
   (case vt=>k_is)
   (case uR=>k_is)
   (case vM=>k_is)
   (case ve=>k_is)
   (case u6=>k_is)
   (case pZ=>k_is)
   (case pH=>k_is)
   (case pB=>k_is)
   (case pG=>k_is)
   (case tG=>k_is)
   (case sR=>k_is)
   (case sJ=>k_is)
   (case tE=>k_is)
   (case pS=>k_is)
   (case pW=>k_is)
   (case pV=>k_is)
   (case pQ=>k_is)
   (case sW=>k_is)
   (case sO=>k_is)
   (case sK=>k_is)
   (case sU=>k_is)
   (case sS=>k_is)
   (case tS=>k_is)
   (case tj=>k_is)
   (case tD=>k_is)
   (case tp=>k_is)
   (case tF=>k_is)
   (case tJ=>k_is)
   (case tH=>k_is)
   (case vP=>k_is)
   (case vY=>k_is)
   (case vc=>k_is)
   (case uT=>k_is)
   (case vz=>k_is)
   (case vN=>k_is)
   (case va=>k_is)
   (case wm=>k_is)
   (case xK=>k_is)
   (case xW=>k_is)
   (case xN=>k_is)
   (case xJ=>k_is)
   (case tN=>k_is)
   (case sX=>k_is)
   (case tM=>k_is)
   (case sP=>k_is)
   (case pI=>k_is)
   (case pK=>k_is)
   (case pU=>k_is)
   (case pP=>k_is)
   (case qW=>k_is)
   (case qH=>k_is)
   (case rN=>k_is)
   (case rC=>k_is)
   (case G1=>k_is)
   (case HL=>k_is)
   (case HS=>k_is)
   (case GO=>k_is)
   (case D0=>k_is)
   (case DT=>k_is)
   (case CZ=>k_is)
   (case Dt=>k_is)
   (case HP=>k_is)
   (case G0=>k_is)
   (case Gn=>k_is)
   (case GY=>k_is)
   (case AD=>k_is)
   (case AF=>k_is)
   (case Am=>k_is)
   (case Ba=>k_is)
   (case GU=>k_is)
   (case He=>k_is)
   (case FR=>k_is)
   (case FC=>k_is)
   (case CQ=>k_is)
   (case DS=>k_is)
   (case DK=>k_is)
   (case Di=>k_is)
   (case vh=>k_is)
   (case wt=>k_is)
   (case vC=>k_is)
   (case wg=>k_is)
   (case mM=>k_is)
   (case mO=>k_is)
   (case mU=>k_is)
   (case mR=>k_is)
   (case yi=>k_is)
   (case yC=>k_is)
   (case xY=>k_is)
   (case yt=>k_is)
   (case pO=>k_is)
   (case pL=>k_is)
   (case pA=>k_is)
   (case pX=>k_is)
   (case uW=>k_is)
   (case wf=>k_is)
   (case vb=>k_is)
   (case vx=>k_is)
   (case nK=>k_is)
   (case nM=>k_is)
   (case n9=>k_is)
   (case nL=>k_is)
   (case yy=>k_is)
   (case yP=>k_is)
   (case yF=>k_is)
   (case xA=>k_is)
   (case sZ=>k_is)
   (case tf=>k_is)
   (case tm=>k_is)
   (case tR=>k_is)
   (case A6=>k_is)
   (case AZ=>k_is)
   (case Al=>k_is)
   (case Ax=>k_is)
   (case wo=>k_is)
   (case u8=>k_is)
   (case vZ=>k_is)
   (case wj=>k_is)
   (case xO=>k_is)
   (case yq=>k_is)
   (case xx=>k_is)
   (case xo=>k_is)
   (case qX=>k_is)
   (case q8=>k_is)
   (case rz=>k_is)
   (case qR=>k_is)
   (case uQ=>k_is)
   (case wc=>k_is)
   (case u7=>k_is)
   (case vS=>k_is)
   (case lB=>k_is)
   (case lY=>k_is)
   (case lL=>k_is)
   (case lG=>k_is)
   (case lF=>k_is)
   (case nP=>k_is)
   (case nW=>k_is)
   (case nO=>k_is)
   (case oj=>k_is)
   (case rg=>k_is)
   (case qZ=>k_is)
   (case rM=>k_is)
   (case qQ=>k_is)
   (case Fr=>k_is)
   (case KU=>k_is)
   (case LS=>k_is)
   (case K2=>k_is)
   (case F5=>k_is)
   (case HE=>k_is)
   (case F3=>k_is)
   (case Hl=>k_is)
   (case GI=>k_is)
   (case HU=>k_is)
   (case n_many_Web=>k_is)
   (case n_roads_Web=>k_is)
   (case AQ=>k_is)
   (case A7=>k_is)
   (case A4=>k_is)
   (case Au=>k_is)
   (case Aq=>k_is)
   (case AO=>k_is)
   (case n_web_Tally=>k_is)
   (case n_down_Tally=>k_is)
   (case n_weights_Tally=>k_is)
   (case n_bearers_Tally=>k_is)
   (case n_kids_Tally=>k_is)
   (case n_rests_Tally=>k_is)
   (case z_range=>k_is)
   (case z_zip=>k_is)
   (case z_len=>k_is)
   (case z_isinstance=>k_is)
   (case z_all=>k_is)
   (case z_any=>k_is)
   (case z_int=>k_is)
   (case z_bool=>k_is)
   (case z_tuple=>k_is)
   (case z_list=>k_is)
   (case z_reversed=>k_is)
   (case z_sorted=>k_is)
   (case z_min=>k_is)
   (case z_max=>k_is)
   (case z_enumerate=>k_is)
   (case z_sum=>k_is)
   (case v_MOST_PLACES=>k_is)
   (case v_LEAST_TOLL=>k_is)
   (case v_MOST_TOLL=>k_is)
#print axioms PySem.Challenge.cw_pebbletoll_k48_whole_far_counts_holds